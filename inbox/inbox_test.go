package inbox_test

import (
	"bytes"
	"encoding/hex"
	"math"
	"math/rand"
	"reflect"
	"slices"
	"strings"
	"testing"
	"unsafe"

	"reeve/api"
	"reeve/inbox"
	"reeve/letter"
)

// The limits, as DOC.md tells them.
const (
	mostKey   = 40
	mostArgs  = 4
	mostInbox = 8
)

// letterForms holds as many formed letters as an inbox takes, beside their bytes.
var letterForms = []struct {
	l    api.Letter
	form string
}{
	{api.Letter{From: "a", Serial: 1, Kind: 5, Args: []int64{-1}}, "0161 01 0a 01 01"},
	{api.Letter{}, "00 00 00 00"},
	{api.Letter{Serial: 248, Kind: -1}, "00 f8f8 01 00"},
	{api.Letter{From: "\x00\xff", Args: []int64{1, 2, 3, 4}}, "0200ff 00 00 04 02 04 06 08"},
	{api.Letter{Serial: math.MaxUint64, Kind: math.MinInt64}, "00 ffffffffffffffffff ffffffffffffffffff 00"},
	{api.Letter{From: strings.Repeat("k", mostKey), Serial: 300}, "28" + strings.Repeat("6b", mostKey) + "f9012c 00 00"},
	{api.Letter{Kind: math.MaxInt64, Args: []int64{0, 124}}, "00 00 fffffffffffffffffe 02 00 f8f8"},
	{api.Letter{From: "b", Serial: 2, Kind: 5, Args: []int64{-1, 0, 0}}, "0162 02 0a 03 01 00 00"},
}

// unformed holds letters beyond a limit.
var unformed = []struct {
	why string
	l   api.Letter
}{
	{"From of 41 bytes", api.Letter{From: strings.Repeat("k", mostKey+1)}},
	{"From of 21 runes, 42 bytes", api.Letter{From: strings.Repeat("é", 21)}},
	{"From of 300 bytes", api.Letter{From: strings.Repeat("k", 300), Serial: 1, Kind: 1}},
	{"five Args", api.Letter{From: "a", Args: make([]int64, mostArgs+1)}},
	{"300 Args", api.Letter{Args: make([]int64, 300)}},
	{"both", api.Letter{From: strings.Repeat("k", mostKey+1), Args: make([]int64, mostArgs+1)}},
}

// unhex makes bytes of hexadecimal digits with spaces between.
func unhex(t *testing.T, form string) []byte {
	t.Helper()
	b, err := hex.DecodeString(strings.ReplaceAll(form, " ", ""))
	if err != nil {
		t.Fatalf("%q: %v", form, err)
	}
	return b
}

// alike holds letters against each other with a comparison that isn't package letter's.
func alike(a, b api.Letter) bool {
	if len(a.Args) == 0 && len(b.Args) == 0 {
		a.Args, b.Args = nil, nil
	}
	return reflect.DeepEqual(a, b)
}

func allAlike(a, b []api.Letter) bool { return slices.EqualFunc(a, b, alike) }

// someLetters are the letters of letterForms, in memory of their own.
func someLetters() []api.Letter {
	var list []api.Letter
	for _, x := range letterForms {
		x.l.Args = slices.Clone(x.l.Args)
		list = append(list, x.l)
	}
	return list
}

// formOf is the bytes of the first count letters of letterForms, as a list.
func formOf(t *testing.T, count int) []byte {
	t.Helper()
	form := []byte{byte(count)}
	for _, x := range letterForms[:count] {
		form = append(form, unhex(t, x.form)...)
	}
	return form
}

// anyLetter makes a formed letter whose parts have all lengths.
func anyLetter(r *rand.Rand) api.Letter {
	l := api.Letter{Serial: r.Uint64() >> r.Intn(64), Kind: int64(r.Uint64()) >> r.Intn(64)}
	from := make([]byte, r.Intn(mostKey+1))
	r.Read(from)
	l.From = string(from)
	for range r.Intn(mostArgs + 1) {
		l.Args = append(l.Args, int64(r.Uint64())>>r.Intn(64))
	}
	return l
}

// with is an inbox into which these letters were pushed.
func with(t *testing.T, list ...api.Letter) *inbox.Inbox {
	t.Helper()
	i := inbox.New()
	for at, l := range list {
		if e := i.Push(l); e != api.OK {
			t.Fatalf("Push of letter %d: %v", at, e)
		}
	}
	return i
}

func mustDecode(t *testing.T, b []byte) *inbox.Inbox {
	t.Helper()
	i, e := inbox.Decode(b)
	if e != api.OK || i == nil {
		t.Fatalf("Decode(%x): %v, %v", b, i, e)
	}
	return i
}

// wantInbox holds all that an inbox tells against the letters that should wait in it.
func wantInbox(t *testing.T, what string, i *inbox.Inbox, want []api.Letter) {
	t.Helper()
	if i.Len() != len(want) || !allAlike(i.All(), want) {
		t.Errorf("%s: %d wait, %v; not %v", what, i.Len(), i.All(), want)
	}
	first, ok := i.First()
	if ok != (len(want) > 0) || ok && !alike(first, want[0]) || !ok && !alike(first, api.Letter{}) {
		t.Errorf("%s: First is %v, %v; of %v", what, first, ok, want)
	}
	packed, e := letter.Pack(want)
	if e != api.OK || !bytes.Equal(i.Encode(), packed) {
		t.Errorf("%s: Encode is %x; not %x, %v", what, i.Encode(), packed, e)
	}
}

// wantPush holds a Push against its errno.
func wantPush(t *testing.T, what string, i *inbox.Inbox, l api.Letter, want api.Errno) {
	t.Helper()
	if e := i.Push(l); e != want {
		t.Errorf("%s: Push is %v; not %v", what, e, want)
	}
}

// wantPops holds the Pops of an inbox, till nothing is left, against these letters.
func wantPops(t *testing.T, what string, i *inbox.Inbox, want []api.Letter) {
	t.Helper()
	for at := range want {
		if l, ok := i.Pop(); !ok || !alike(l, want[at]) {
			t.Errorf("%s: Pop %d is %v, %v; not %v", what, at, l, ok, want[at])
		}
		wantInbox(t, what, i, want[at+1:])
	}
	wantNothing(t, what, i)
}

// wantNothing holds First and Pop against what they answer where no letter waits.
func wantNothing(t *testing.T, what string, i *inbox.Inbox) {
	t.Helper()
	if l, ok := i.First(); ok || !alike(l, api.Letter{}) {
		t.Errorf("%s: First of none is %v, %v", what, l, ok)
	}
	if l, ok := i.Pop(); ok || !alike(l, api.Letter{}) {
		t.Errorf("%s: Pop of none is %v, %v", what, l, ok)
	}
	if i.Len() != 0 || len(i.All()) != 0 {
		t.Errorf("%s: of none %d wait, %v", what, i.Len(), i.All())
	}
}

// wantNoInbox holds a Decode against ErrForm, beside which there is no inbox.
func wantNoInbox(t *testing.T, why string, b []byte) {
	t.Helper()
	if i, e := inbox.Decode(b); e != api.ErrForm || i != nil {
		t.Errorf("%s: Decode(%x) is %v, %v", why, b, i, e)
	}
}

func TestExamples(t *testing.T) {
	a, b := api.Letter{From: "a", Kind: 1}, api.Letter{From: "b", Kind: 2}
	i := with(t, a, b)
	if l, ok := i.Pop(); !ok || !alike(l, a) {
		t.Errorf("Push(a), Push(b), Pop: %v, %v", l, ok)
	}
	i = inbox.New()
	for at := range 8 {
		wantPush(t, "one of eight", i, api.Letter{Serial: uint64(at)}, api.OK)
	}
	wantPush(t, "the ninth", i, api.Letter{Serial: 8}, api.ErrInbox)
}

func TestLimitsAreTheDocuments(t *testing.T) {
	if api.MaxKey != mostKey || api.MaxArgs != mostArgs || api.MaxInbox != mostInbox || len(letterForms) != mostInbox {
		t.Errorf("limits: %d, %d, %d", api.MaxKey, api.MaxArgs, api.MaxInbox)
	}
}

// P12.1: letters that wait.

func TestNewIsWithoutLetters(t *testing.T) {
	i := inbox.New()
	if i == nil {
		t.Fatal("New is nil")
	}
	wantInbox(t, "new", i, nil)
	wantNothing(t, "new", i)
	wantPops(t, "new, and all pushed", with(t, someLetters()...), someLetters())
}

func TestZeroInboxIsAsNew(t *testing.T) {
	var zero inbox.Inbox
	wantInbox(t, "zero", &zero, nil)
	wantNothing(t, "zero", &zero)
	for _, l := range someLetters() {
		wantPush(t, "zero", &zero, l, api.OK)
	}
	wantPush(t, "zero, full", &zero, api.Letter{}, api.ErrInbox)
	wantPops(t, "zero", &zero, someLetters())
}

func TestPushedIsTheLastOne(t *testing.T) {
	list := someLetters()
	i := inbox.New()
	for at, l := range list {
		wantPush(t, "below the limit", i, l, api.OK)
		wantInbox(t, "behind a Push", i, list[:at+1])
	}
}

func TestPushUpToTheLimitsOfALetter(t *testing.T) {
	for size := range 2 * mostKey {
		want := api.OK
		if size > mostKey {
			want = api.ErrArg
		}
		wantPush(t, "From's length", inbox.New(), api.Letter{From: strings.Repeat("k", size)}, want)
	}
	for size := range 3 * mostArgs {
		want := api.OK
		if size > mostArgs {
			want = api.ErrArg
		}
		wantPush(t, "Args' length", inbox.New(), api.Letter{Args: make([]int64, size, 3*mostArgs)}, want)
	}
}

func TestPushOfALetterThatIsNotFormed(t *testing.T) {
	for _, x := range unformed {
		// At the last count the inbox is full too: form is asked first.
		for count := range mostInbox + 1 {
			list := someLetters()[:count]
			i := with(t, list...)
			wantPush(t, x.why, i, x.l, api.ErrArg)
			wantInbox(t, x.why, i, list)
		}
	}
}

func TestPushIntoAFullInbox(t *testing.T) {
	list := someLetters()
	i := with(t, list...)
	for range 3 {
		for _, l := range append(someLetters(), api.Letter{From: "other", Kind: 9}) {
			wantPush(t, "full", i, l, api.ErrInbox)
			wantInbox(t, "full", i, list)
		}
	}
	wantPops(t, "full", i, list)
}

func TestAPopMakesRoomForOne(t *testing.T) {
	list := someLetters()
	i := with(t, list...)
	for n := range 5 * mostInbox {
		if l, ok := i.Pop(); !ok || !alike(l, list[0]) {
			t.Errorf("Pop is %v, %v; not %v", l, ok, list[0])
		}
		next := api.Letter{From: "next", Serial: uint64(n)}
		list = append(list[1:], next)
		wantPush(t, "room for one", i, next, api.OK)
		wantPush(t, "and for no more", i, next, api.ErrInbox)
		wantInbox(t, "one went, one came", i, list)
	}
}

func TestFirstChangesNothing(t *testing.T) {
	list := someLetters()
	i := with(t, list...)
	for range 20 {
		if l, ok := i.First(); !ok || !alike(l, list[0]) {
			t.Errorf("First is %v, %v", l, ok)
		}
	}
	wantInbox(t, "behind First", i, list)
}

func TestPopTakesTheFirstOne(t *testing.T) {
	for count := range mostInbox + 1 {
		list := someLetters()[:count]
		wantPops(t, "one behind the other", with(t, list...), list)
	}
}

func TestOneThatWasEmptiedTakesLettersAgain(t *testing.T) {
	i := inbox.New()
	for range 3 {
		for _, l := range someLetters() {
			wantPush(t, "empty", i, l, api.OK)
		}
		wantPops(t, "emptied", i, someLetters())
	}
}

func TestTheSameLetterMayWaitTwice(t *testing.T) {
	l := api.Letter{From: "a", Serial: 1, Kind: 5, Args: []int64{-1}}
	wantPops(t, "twice the same", with(t, l, l, l), []api.Letter{l, l, l})
}

func TestAgainstAListOfLetters(t *testing.T) {
	r := rand.New(rand.NewSource(21))
	i := inbox.New()
	var list []api.Letter
	// The more come and then the more go, so that both ends are met often.
	for n := range 20000 {
		if r.Intn(10) < 3+4*(n/50%2) {
			l, want := anyLetter(r), api.OK
			if len(list) == mostInbox {
				want = api.ErrInbox
			} else {
				list = append(list, l)
			}
			wantPush(t, "any", i, l, want)
		} else if l, ok := i.Pop(); ok != (len(list) > 0) || ok && !alike(l, list[0]) {
			t.Fatalf("Pop is %v, %v; of %v", l, ok, list)
		} else if ok {
			list = list[1:]
		}
		wantInbox(t, "any", i, list)
		if t.Failed() {
			return
		}
	}
}

// P12.2: as bytes.

func TestEncodeIsTheListsBytes(t *testing.T) {
	if b := inbox.New().Encode(); !bytes.Equal(b, []byte{0}) {
		t.Errorf("Encode of none is %x", b)
	}
	for count := range mostInbox + 1 {
		i := with(t, someLetters()[:count]...)
		if b := i.Encode(); !bytes.Equal(b, formOf(t, count)) {
			t.Errorf("Encode of %d is %x; not %x", count, b, formOf(t, count))
		}
	}
}

func TestEncodeTellsOnlyThoseThatWait(t *testing.T) {
	i := with(t, append([]api.Letter{{From: "gone"}, {From: "too"}}, someLetters()[:3]...)...)
	i.Pop()
	i.Pop()
	if b := i.Encode(); !bytes.Equal(b, formOf(t, 3)) {
		t.Errorf("Encode is %x; not %x", b, formOf(t, 3))
	}
}

func TestDecodeIsTheInboxWithThese(t *testing.T) {
	for count := range mostInbox + 1 {
		list := someLetters()[:count]
		i := mustDecode(t, formOf(t, count))
		wantInbox(t, "decoded", i, list)
		wantPops(t, "decoded", i, list)
	}
}

func TestADecodedInboxGoesOn(t *testing.T) {
	for count := range mostInbox + 1 {
		list := someLetters()[:count]
		i := mustDecode(t, formOf(t, count))
		for len(list) < mostInbox {
			l := api.Letter{From: "more", Serial: uint64(len(list))}
			wantPush(t, "decoded, with room", i, l, api.OK)
			list = append(list, l)
		}
		wantPush(t, "decoded, full", i, api.Letter{}, api.ErrInbox)
		wantPush(t, "decoded, full", i, unformed[0].l, api.ErrArg)
		wantPops(t, "decoded, full", i, list)
	}
}

func TestDecodeOfMoreThanWait(t *testing.T) {
	for _, count := range []int{mostInbox + 1, mostInbox + 2, 16, 247, 248, 264, 300, 65536, 65544} {
		b, e := letter.Pack(make([]api.Letter, count))
		if e != api.OK {
			t.Fatal(count, e)
		}
		if i, e := inbox.Decode(b); e != api.ErrForm || i != nil {
			t.Errorf("Decode of %d is %v, %v", count, i, e)
		}
	}
	nine, _ := letter.Pack(append(someLetters(), api.Letter{From: "ninth"}))
	wantNoInbox(t, "nine letters", nine)
}

func TestDecodeOfOtherBytes(t *testing.T) {
	wantNoInbox(t, "nil", nil)
	forms := []struct {
		why  string
		form string
	}{
		{"nothing", ""},
		{"the count is no number", "f800"},
		{"the count has a second form", "f801 00000000"},
		{"none, and a byte behind", "00 00"},
		{"none, and a letter behind", "00 00000000"},
		{"one, and nothing behind", "01"},
		{"one, and two are there", "01 00000000 00000000"},
		{"two, and one is there", "02 00000000"},
		{"eight, and seven are there", "08" + strings.Repeat("00000000", 7)},
		{"eight, and nine are there", "08" + strings.Repeat("00000000", 9)},
		{"nine, and eight are there", "09" + strings.Repeat("00000000", 8)},
		{"2^64 - 1, and two are there", "ffffffffffffffffff 00000000 00000000"},
		{"From of 41 bytes", "01 29" + strings.Repeat("6b", mostKey+1) + "00 00 00"},
		{"five Args", "01 00 00 00 05 00 00 00 00 00"},
		{"the last of three has five Args", "03 00000000 00000000 00 00 00 05 00 00 00 00 00"},
		{"Serial is no number", "01 00 f805 00 00"},
		{"Kind ends too early", "01 00 00 f9 01"},
	}
	for _, x := range forms {
		wantNoInbox(t, x.why, unhex(t, x.form))
	}
}

func TestDecodeOfLessOrMore(t *testing.T) {
	b := formOf(t, mostInbox)
	for size := range b {
		wantNoInbox(t, "a beginning", b[:size])
	}
	for _, more := range []byte{0, 1, 0xf7, 0xf8, 0xff} {
		wantNoInbox(t, "a byte behind", append(slices.Clone(b), more))
	}
	for _, count := range []byte{0, 1, mostInbox - 1, mostInbox + 1, 247} {
		wantNoInbox(t, "another count", append([]byte{count}, b[1:]...))
	}
}

func TestDecodeUndoesEncode(t *testing.T) {
	r := rand.New(rand.NewSource(22))
	for range 3000 {
		list := make([]api.Letter, r.Intn(mostInbox+1))
		for at := range list {
			list[at] = anyLetter(r)
		}
		i := with(t, list...)
		for range r.Intn(3) {
			if _, ok := i.Pop(); ok {
				list = list[1:]
			}
		}
		wantInbox(t, "there and back", mustDecode(t, i.Encode()), list)
		if t.Failed() {
			return
		}
	}
}

// TestDecodeAnswersAsUnpackDoes goes through bytes of all kinds, most of them nearly right.
func TestDecodeAnswersAsUnpackDoes(t *testing.T) {
	r := rand.New(rand.NewSource(23))
	good := 0
	for range 20000 {
		list := make([]api.Letter, r.Intn(2*mostInbox))
		for at := range list {
			list[at] = anyLetter(r)
		}
		b, _ := letter.Pack(list)
		if r.Intn(2) == 0 {
			b[r.Intn(len(b))] ^= byte(1 + r.Intn(255))
		}
		want, e := letter.Unpack(b)
		if e != api.OK || len(want) > mostInbox {
			wantNoInbox(t, "as Unpack", b)
		} else {
			good++
			i := mustDecode(t, b)
			wantInbox(t, "as Unpack", i, want)
			if !bytes.Equal(i.Encode(), b) {
				t.Errorf("%x came back as %x", b, i.Encode())
			}
		}
		if t.Failed() {
			return
		}
	}
	if good < 1000 {
		t.Errorf("only %d inboxes", good)
	}
}

// R1: nil.

func TestNilInbox(t *testing.T) {
	var none *inbox.Inbox
	for _, l := range append(someLetters(), unformed[0].l, unformed[3].l) {
		wantPush(t, "nil", none, l, api.ErrArg)
	}
	wantNothing(t, "nil", none)
	if b := none.Encode(); len(b) != 0 {
		t.Errorf("Encode of nil is %x", b)
	}
}

// R2: the object's history alone.

func TestEachInboxIsForItself(t *testing.T) {
	a, b := inbox.New(), inbox.New()
	wantPush(t, "a", a, api.Letter{From: "a"}, api.OK)
	wantInbox(t, "b", b, nil)
	wantPush(t, "b", b, api.Letter{From: "b"}, api.OK)
	wantPops(t, "a", a, []api.Letter{{From: "a"}})
	wantInbox(t, "b", b, []api.Letter{{From: "b"}})
	form := formOf(t, 3)
	c, d := mustDecode(t, form), mustDecode(t, form)
	wantPops(t, "c", c, someLetters()[:3])
	wantInbox(t, "d", d, someLetters()[:3])
}

func TestACopyOfAnInboxIsForItself(t *testing.T) {
	list := someLetters()[:3]
	first := with(t, list...)
	second := *first
	wantPush(t, "first", first, api.Letter{From: "first"}, api.OK)
	wantPush(t, "second", &second, api.Letter{From: "second"}, api.OK)
	wantInbox(t, "first", first, append(slices.Clone(list), api.Letter{From: "first"}))
	wantInbox(t, "second", &second, append(slices.Clone(list), api.Letter{From: "second"}))
	l, _ := first.Pop()
	fillArgs(l.Args)
	wantPops(t, "first", first, append(slices.Clone(list[1:]), api.Letter{From: "first"}))
	wantPops(t, "second", &second, append(slices.Clone(list), api.Letter{From: "second"}))
}

func TestAnswersStayTheSame(t *testing.T) {
	i := with(t, someLetters()...)
	for range 3 {
		wantInbox(t, "again", i, someLetters())
		wantInbox(t, "decoded again", mustDecode(t, formOf(t, mostInbox)), someLetters())
	}
}

// R3: memory.

// fillBytes overwrites bytes and their spare room.
func fillBytes(b []byte) {
	b = b[:cap(b)]
	for at := range b {
		b[at] = 0xee
	}
}

// fillArgs overwrites arguments and their spare room.
func fillArgs(args []int64) {
	args = args[:cap(args)]
	for at := range args {
		args[at] = -777
	}
}

// fillAll overwrites letters with their arguments, and their spare room.
func fillAll(list []api.Letter) {
	list = list[:cap(list)]
	for at := range list {
		fillArgs(list[at].Args)
		list[at] = api.Letter{From: "filled"}
	}
}

func TestPushedLetterStaysAsItIsAndIsNotKept(t *testing.T) {
	for size := range mostArgs + 1 {
		room := []int64{1, 2, 3, 4, 5, 6, 7}
		want := []api.Letter{{From: "a", Args: slices.Clone(room[:size])}}
		i := with(t, api.Letter{From: "a", Args: room[:size]})
		if !slices.Equal(room, []int64{1, 2, 3, 4, 5, 6, 7}) {
			t.Errorf("%d Args: changed to %v", size, room)
		}
		fillArgs(room)
		wantInbox(t, "filled behind the Push", i, want)
	}
}

func TestFromIsNewMemory(t *testing.T) {
	from := strings.Repeat("k", mostKey)
	i := with(t, api.Letter{From: from})
	first, _ := i.First()
	all := i.All()
	last, _ := i.Pop()
	for _, l := range []api.Letter{first, all[0], last} {
		if l.From != from || unsafe.StringData(l.From) == unsafe.StringData(from) {
			t.Error("From is shared with what was pushed")
		}
	}
	if unsafe.StringData(first.From) == unsafe.StringData(all[0].From) {
		t.Error("From is shared by two answers")
	}
}

func TestFirstIsNewMemory(t *testing.T) {
	i := with(t, someLetters()...)
	for at := range mostInbox {
		l, _ := i.First()
		fillArgs(l.Args)
		wantInbox(t, "First's answer was filled", i, someLetters()[at:])
		i.Pop()
	}
}

func TestPoppedIsNewMemory(t *testing.T) {
	i := with(t, someLetters()...)
	var popped []api.Letter
	for range mostInbox {
		l, _ := i.Pop()
		popped = append(popped, l)
	}
	for _, l := range someLetters() {
		wantPush(t, "behind the Pops", i, l, api.OK)
	}
	if !allAlike(popped, someLetters()) {
		t.Errorf("a Push changed what was popped: %v", popped)
	}
	fillAll(popped)
	wantInbox(t, "Pop's answers were filled", i, someLetters())
}

func TestAllIsNewMemory(t *testing.T) {
	for count := range mostInbox + 1 {
		i := with(t, someLetters()[:count]...)
		other := i.All()
		fillAll(i.All())
		wantInbox(t, "All's answer was filled", i, someLetters()[:count])
		if !allAlike(other, someLetters()[:count]) {
			t.Errorf("two answers of All share memory: %v", other)
		}
		if count < mostInbox {
			wantPush(t, "behind All", i, api.Letter{From: "next"}, api.OK)
			wantInbox(t, "behind All", i, append(someLetters()[:count], api.Letter{From: "next"}))
		}
	}
}

func TestListsOfOneAnswerShareNothing(t *testing.T) {
	want := someLetters()
	all := with(t, want...).All()
	for at := range all {
		fillArgs(all[at].Args)
		if !allAlike(all[at+1:], want[at+1:]) {
			t.Fatalf("the Args at %d are shared: %v", at, all)
		}
	}
}

func TestEncodeIsNewMemory(t *testing.T) {
	i := with(t, someLetters()...)
	other := i.Encode()
	fillBytes(i.Encode())
	wantInbox(t, "Encode's answer was filled", i, someLetters())
	if !bytes.Equal(other, formOf(t, mostInbox)) {
		t.Errorf("two answers of Encode share memory: %x", other)
	}
}

func TestDecodedBytesStayAsTheyAreAndAreNotKept(t *testing.T) {
	room := append(formOf(t, mostInbox), 9, 9, 9)
	was := slices.Clone(room)
	b := room[:len(room)-3]
	i := mustDecode(t, b)
	wantNoInbox(t, "more", room)
	if !bytes.Equal(room, was) {
		t.Errorf("changed: %x; not %x", room, was)
	}
	fillBytes(b)
	wantInbox(t, "the bytes were filled", i, someLetters())
}

// R4: lists of no elements.

func TestNoArgsAreNilOrEmpty(t *testing.T) {
	without := []api.Letter{{From: "a"}, {From: "a", Args: []int64{}}, {From: "a", Args: make([]int64, 0, 9)}, {From: "a", Args: []int64{7, 8}[:0]}}
	for _, l := range without {
		i := with(t, l)
		wantInbox(t, "no Args", i, without[:1])
		if b := i.Encode(); string(b) != "\x01\x01a\x00\x00\x00" {
			t.Errorf("Encode of %#v is %x", l, b)
		}
	}
}
