package letter_test

import (
	"bytes"
	"encoding/hex"
	"math"
	"math/rand"
	"reflect"
	"slices"
	"strings"
	"testing"
	"unsafe"

	"reeve/api"
	"reeve/letter"
)

// The limits, as DOC.md tells them.
const (
	mostKey  = 40
	mostArgs = 4
)

// letterForms holds formed letters beside their bytes.
var letterForms = []struct {
	l    api.Letter
	form string
}{
	{api.Letter{From: "a", Serial: 1, Kind: 5, Args: []int64{-1}}, "0161 01 0a 01 01"},
	{api.Letter{}, "00 00 00 00"},
	{api.Letter{From: "ab"}, "026162 00 00 00"},
	{api.Letter{Serial: 247}, "00 f7 00 00"},
	{api.Letter{Serial: 248}, "00 f8f8 00 00"},
	{api.Letter{Serial: math.MaxUint64}, "00 ffffffffffffffffff 00 00"},
	{api.Letter{Kind: -1}, "00 00 01 00"},
	{api.Letter{Kind: 150}, "00 00 f9012c 00"},
	{api.Letter{Kind: math.MaxInt64}, "00 00 fffffffffffffffffe 00"},
	{api.Letter{Kind: math.MinInt64}, "00 00 ffffffffffffffffff 00"},
	{api.Letter{Args: []int64{0}}, "00 00 00 01 00"},
	{api.Letter{Args: []int64{1, -1}}, "00 00 00 02 02 01"},
	{api.Letter{Args: []int64{math.MaxInt64, 0, math.MinInt64}}, "00 00 00 03 fffffffffffffffffe 00 ffffffffffffffffff"},
	{api.Letter{Args: []int64{1, 2, 3, 4}}, "00 00 00 04 02 04 06 08"},
	{api.Letter{From: "\x00\xff", Serial: 2, Kind: -3, Args: []int64{0, 124}}, "0200ff 02 05 02 00 f8f8"},
	{
		api.Letter{From: strings.Repeat("k", mostKey), Serial: 300, Kind: 1, Args: []int64{-2, 0, 0, 0}},
		"28" + strings.Repeat("6b", mostKey) + "f9012c 02 04 03 00 00 00",
	},
}

// unformed holds letters beyond a limit.
var unformed = []struct {
	why string
	l   api.Letter
}{
	{"From of 41 bytes", api.Letter{From: strings.Repeat("k", mostKey+1)}},
	{"From of 21 runes, 42 bytes", api.Letter{From: strings.Repeat("é", 21)}},
	{"From of 300 bytes", api.Letter{From: strings.Repeat("k", 300), Serial: 1, Kind: 1}},
	{"five Args", api.Letter{From: "a", Args: make([]int64, mostArgs+1)}},
	{"300 Args", api.Letter{Args: make([]int64, 300)}},
	{"both", api.Letter{From: strings.Repeat("k", mostKey+1), Args: make([]int64, mostArgs+1)}},
}

// badForms holds bytes that are no formed letter's.
var badForms = []struct {
	why  string
	form string
}{
	{"nothing", ""},
	{"From alone", "0161"},
	{"no Kind", "00 00"},
	{"no count", "00 00 00"},
	{"From longer than what is left", "05616161"},
	{"From's length is no number", "f805 00 00 00 00 00 00"},
	{"Serial is no number", "00 f805 00 00"},
	{"Serial ends too early", "00 f901"},
	{"Kind is no integer", "00 00 f805 00"},
	{"the count is no number", "00 00 00 f800"},
	{"the count has a second form", "00 00 00 f801 00"},
	{"one Arg too few", "00 00 00 01"},
	{"one of four Args too few", "00 00 00 04 00 00 00"},
	{"an Arg is no integer", "00 00 00 01 f805"},
	{"the last Arg ends too early", "00 00 00 02 00 f8"},
	{"one byte behind", "00 00 00 00 00"},
	{"one Arg too many", "00 00 00 01 00 00"},
	{"the example, and a byte behind", "0161 01 0a 01 01 00"},
	{"the example, less its last byte", "0161 01 0a 01"},
	{"two letters", "00 00 00 00 00 00 00 00"},
	{"From of 41 bytes", "29" + strings.Repeat("6b", mostKey+1) + "00 00 00"},
	{"From of 248 bytes", "f8f8" + strings.Repeat("6b", 248) + "00 00 00"},
	{"five Args", "00 00 00 05 00 00 00 00 00"},
	{"248 Args", "00 00 00 f8f8" + strings.Repeat("00", 248)},
	{"2^32 Args, as if none", "00 00 00 fc0100000000"},
	{"2^63 Args", "00 00 00 ff8000000000000000 00"},
	{"2^64 - 1 Args", "00 00 00 ffffffffffffffffff 00 00"},
	{"From of 2^64 - 1 bytes", "ffffffffffffffffff 00 00 00"},
}

// unhex makes bytes of hexadecimal digits with spaces between.
func unhex(t *testing.T, form string) []byte {
	t.Helper()
	b, err := hex.DecodeString(strings.ReplaceAll(form, " ", ""))
	if err != nil {
		t.Fatalf("%q: %v", form, err)
	}
	return b
}

// alike holds letters against each other with a comparison that isn't package letter's.
func alike(a, b api.Letter) bool {
	if len(a.Args) == 0 && len(b.Args) == 0 {
		a.Args, b.Args = nil, nil
	}
	return reflect.DeepEqual(a, b)
}

func allAlike(a, b []api.Letter) bool { return slices.EqualFunc(a, b, alike) }

func mustEncode(t *testing.T, l api.Letter) []byte {
	t.Helper()
	b, e := letter.Encode(l)
	if e != api.OK {
		t.Fatalf("Encode(%v): %v", l, e)
	}
	return b
}

func mustDecode(t *testing.T, b []byte) api.Letter {
	t.Helper()
	l, e := letter.Decode(b)
	if e != api.OK {
		t.Fatalf("Decode(%x): %v", b, e)
	}
	return l
}

func mustPack(t *testing.T, list []api.Letter) []byte {
	t.Helper()
	b, e := letter.Pack(list)
	if e != api.OK {
		t.Fatalf("Pack(%v): %v", list, e)
	}
	return b
}

func mustUnpack(t *testing.T, b []byte) []api.Letter {
	t.Helper()
	list, e := letter.Unpack(b)
	if e != api.OK {
		t.Fatalf("Unpack(%x): %v", b, e)
	}
	return list
}

// wantNoLetter holds a Decode against ErrForm, beside which all is zero.
func wantNoLetter(t *testing.T, why string, b []byte) {
	t.Helper()
	l, e := letter.Decode(b)
	if e != api.ErrForm || !alike(l, api.Letter{}) {
		t.Errorf("%s: Decode(%x) is %v, %v", why, b, l, e)
	}
}

// wantNoList holds an Unpack against ErrForm, beside which the list is empty.
func wantNoList(t *testing.T, why string, b []byte) {
	t.Helper()
	list, e := letter.Unpack(b)
	if e != api.ErrForm || len(list) != 0 {
		t.Errorf("%s: Unpack(%x) is %v, %v", why, b, list, e)
	}
}

// someLetters are the letters of letterForms.
func someLetters() []api.Letter {
	var list []api.Letter
	for _, x := range letterForms {
		list = append(list, x.l)
	}
	return list
}

// anyLetter makes a formed letter whose parts have all lengths.
func anyLetter(r *rand.Rand) api.Letter {
	l := api.Letter{Serial: r.Uint64() >> r.Intn(64), Kind: int64(r.Uint64()) >> r.Intn(64)}
	from := make([]byte, r.Intn(mostKey+1))
	r.Read(from)
	l.From = string(from)
	for range r.Intn(mostArgs + 1) {
		l.Args = append(l.Args, int64(r.Uint64())>>r.Intn(64))
	}
	return l
}

// P11.1: one letter.

func TestLimitsAreTheDocuments(t *testing.T) {
	if api.MaxKey != mostKey || api.MaxArgs != mostArgs {
		t.Errorf("limits: %d, %d", api.MaxKey, api.MaxArgs)
	}
}

func TestFormedUpToTheLimits(t *testing.T) {
	for _, l := range someLetters() {
		if !letter.Formed(l) {
			t.Errorf("not formed: %v", l)
		}
	}
	for size := range 2 * mostKey {
		l := api.Letter{From: strings.Repeat("k", size), Serial: 1, Kind: 1}
		if letter.Formed(l) != (size <= mostKey) {
			t.Errorf("From of %d bytes: Formed is %v", size, letter.Formed(l))
		}
	}
	for size := range 3 * mostArgs {
		l := api.Letter{From: "a", Args: make([]int64, size, 3*mostArgs)}
		if letter.Formed(l) != (size <= mostArgs) {
			t.Errorf("%d Args: Formed is %v", size, letter.Formed(l))
		}
	}
	for _, x := range unformed {
		if letter.Formed(x.l) {
			t.Errorf("%s: formed", x.why)
		}
	}
}

func TestSameAsksForAllOfBoth(t *testing.T) {
	list := append(someLetters(),
		api.Letter{From: "a", Serial: 1, Kind: 5, Args: []int64{-2}},
		api.Letter{From: "a", Serial: 1, Kind: 5, Args: []int64{-1, 0}},
		api.Letter{From: "a", Serial: 1, Kind: 5, Args: []int64{0, -1}},
		api.Letter{From: "a", Serial: 1, Kind: 5},
		api.Letter{From: "a", Serial: 1, Kind: 6, Args: []int64{-1}},
		api.Letter{From: "a", Serial: 2, Kind: 5, Args: []int64{-1}},
		api.Letter{From: "b", Serial: 1, Kind: 5, Args: []int64{-1}},
		api.Letter{From: "A", Serial: 1, Kind: 5, Args: []int64{-1}},
		api.Letter{From: "", Serial: 1, Kind: 5, Args: []int64{-1}},
	)
	for _, x := range unformed {
		list = append(list, x.l)
	}
	for i, a := range list {
		for k, b := range list {
			b.Args = slices.Clone(b.Args)
			if letter.Same(a, b) != (i == k) {
				t.Errorf("Same(%v, %v) is %v", a, b, letter.Same(a, b))
			}
		}
	}
}

func TestCopyIsTheSameLetter(t *testing.T) {
	list := someLetters()
	for _, x := range unformed {
		list = append(list, x.l)
	}
	for _, l := range list {
		if c := letter.Copy(l); !alike(c, l) || !letter.Same(c, l) {
			t.Errorf("Copy(%v) is %v", l, c)
		}
	}
}

func TestEncodeTellsTheLettersBytes(t *testing.T) {
	for _, x := range letterForms {
		b, e := letter.Encode(x.l)
		if e != api.OK || !bytes.Equal(b, unhex(t, x.form)) {
			t.Errorf("Encode(%v) is %x, %v; not %s", x.l, b, e, x.form)
		}
	}
}

func TestEncodeOfALetterThatIsNotFormed(t *testing.T) {
	for _, x := range unformed {
		if b, e := letter.Encode(x.l); e != api.ErrArg || len(b) != 0 {
			t.Errorf("%s: Encode is %x, %v", x.why, b, e)
		}
	}
}

func TestDecodeTellsTheLetter(t *testing.T) {
	for _, x := range letterForms {
		l, e := letter.Decode(unhex(t, x.form))
		if e != api.OK || !alike(l, x.l) {
			t.Errorf("Decode(%s) is %v, %v; not %v", x.form, l, e, x.l)
		}
	}
}

func TestDecodeOfOtherBytes(t *testing.T) {
	wantNoLetter(t, "nil", nil)
	for _, x := range badForms {
		wantNoLetter(t, x.why, unhex(t, x.form))
	}
}

func TestDecodeOfLessOrMore(t *testing.T) {
	for _, x := range letterForms {
		b := unhex(t, x.form)
		for size := range b {
			wantNoLetter(t, "a beginning", b[:size])
		}
		for _, more := range []byte{0, 1, 0xf7, 0xf8, 0xff} {
			wantNoLetter(t, "a byte behind", append(slices.Clone(b), more))
		}
	}
}

// P11.2: a list of letters.

func TestPackTellsTheListsBytes(t *testing.T) {
	for _, none := range [][]api.Letter{nil, {}, make([]api.Letter, 0, 3)} {
		if b := mustPack(t, none); !bytes.Equal(b, []byte{0}) {
			t.Errorf("Pack of none is %x", b)
		}
	}
	var list []api.Letter
	var each []byte
	for i, x := range letterForms {
		list = append(list, x.l)
		each = append(each, unhex(t, x.form)...)
		want := append([]byte{byte(i + 1)}, each...)
		if b := mustPack(t, list); !bytes.Equal(b, want) {
			t.Errorf("Pack(%v) is %x; not %x", list, b, want)
		}
	}
}

func TestPackTakesAnyCount(t *testing.T) {
	heads := []struct {
		count int
		head  string
	}{{8, "08"}, {9, "09"}, {247, "f7"}, {248, "f8f8"}, {300, "f9012c"}, {65536, "fa010000"}}
	for _, x := range heads {
		b := mustPack(t, make([]api.Letter, x.count))
		want := append(unhex(t, x.head), make([]byte, 4*x.count)...)
		if !bytes.Equal(b, want) {
			t.Errorf("Pack of %d: %d bytes, which begin %x", x.count, len(b), b[:5])
		}
		list := mustUnpack(t, b)
		if !allAlike(list, make([]api.Letter, x.count)) {
			t.Errorf("Unpack of %d: %d", x.count, len(list))
		}
		wantNoList(t, "a byte less", b[:len(b)-1])
		wantNoList(t, "a byte more", append(b, 0))
	}
}

func TestPackOfALetterThatIsNotFormed(t *testing.T) {
	for _, x := range unformed {
		for at := range 4 {
			list := slices.Insert(make([]api.Letter, 3), at, x.l)
			if b, e := letter.Pack(list); e != api.ErrArg || len(b) != 0 {
				t.Errorf("%s, at %d: Pack is %x, %v", x.why, at, b, e)
			}
		}
		if b, e := letter.Pack([]api.Letter{x.l}); e != api.ErrArg || len(b) != 0 {
			t.Errorf("%s: Pack is %x, %v", x.why, b, e)
		}
	}
}

func TestUnpackTellsTheList(t *testing.T) {
	if list := mustUnpack(t, []byte{0}); len(list) != 0 {
		t.Errorf("Unpack of none: %v", list)
	}
	var list []api.Letter
	var each []byte
	for i, x := range letterForms {
		list = append(list, x.l)
		each = append(each, unhex(t, x.form)...)
		got := mustUnpack(t, append([]byte{byte(i + 1)}, each...))
		if !allAlike(got, list) {
			t.Errorf("Unpack is %v; not %v", got, list)
		}
	}
}

func TestUnpackOfOtherBytes(t *testing.T) {
	wantNoList(t, "nil", nil)
	forms := []struct {
		why  string
		form string
	}{
		{"nothing", ""},
		{"the count is no number", "f800"},
		{"the count has a second form", "f801 00000000"},
		{"the count ends too early", "f9 01"},
		{"none, and a byte behind", "00 00"},
		{"none, and a letter behind", "00 00000000"},
		{"one, and nothing behind", "01"},
		{"one, and two are there", "01 00000000 00000000"},
		{"two, and one is there", "02 00000000"},
		{"2^32, as if none", "fc0100000000"},
		{"2^32 + 1, and one is there", "fc0100000001 00000000"},
		{"2^63, and one is there", "ff8000000000000000 00000000"},
		{"2^64 - 1, and two are there", "ffffffffffffffffff 00000000 00000000"},
	}
	for _, x := range forms {
		wantNoList(t, x.why, unhex(t, x.form))
	}
	for _, x := range badForms {
		b := unhex(t, x.form)
		wantNoList(t, "alone: "+x.why, append([]byte{1}, b...))
		wantNoList(t, "the last: "+x.why, append([]byte{2, 0, 0, 0, 0}, b...))
	}
}

func TestUnpackOfLessOrMore(t *testing.T) {
	b := mustPack(t, someLetters())
	for size := range b {
		wantNoList(t, "a beginning", b[:size])
	}
	for _, more := range []byte{0, 1, 0xf7, 0xf8, 0xff} {
		wantNoList(t, "a byte behind", append(slices.Clone(b), more))
	}
	for _, count := range []byte{0, 1, byte(len(letterForms) - 1), byte(len(letterForms) + 1), 247} {
		wantNoList(t, "another count", append([]byte{count}, b[1:]...))
	}
}

func TestUnpackAsksOfEachLetterToBeFormed(t *testing.T) {
	long := unhex(t, "29"+strings.Repeat("6b", mostKey+1)+"00 00 00")
	many := unhex(t, "00 00 00 05 00 00 00 00 00")
	for _, bad := range [][]byte{long, many} {
		for at := range 3 {
			b := []byte{3}
			for i := range 3 {
				if i == at {
					b = append(b, bad...)
				} else {
					b = append(b, 0, 0, 0, 0)
				}
			}
			wantNoList(t, "one isn't formed", b)
		}
	}
}

// P11.3: there and back.

func TestDecodeUndoesEncode(t *testing.T) {
	r := rand.New(rand.NewSource(11))
	for range 20000 {
		l := anyLetter(r)
		b := mustEncode(t, l)
		if back := mustDecode(t, b); !alike(back, l) || !letter.Same(back, l) {
			t.Fatalf("%v came back as %v", l, back)
		}
	}
}

func TestUnpackUndoesPack(t *testing.T) {
	r := rand.New(rand.NewSource(12))
	for range 2000 {
		list := make([]api.Letter, r.Intn(12))
		for i := range list {
			list[i] = anyLetter(r)
		}
		if back := mustUnpack(t, mustPack(t, list)); !allAlike(back, list) {
			t.Fatalf("%v came back as %v", list, back)
		}
	}
}

// eachShort hands out all lists of up to that many bytes, of some that are numbers alone and some that are not.
func eachShort(most int, hand func(b []byte)) {
	some := []byte{0, 1, 2, 5, 0xf7, 0xf8, 0xf9}
	var grow func(b []byte)
	grow = func(b []byte) {
		hand(b)
		if len(b) == most {
			return
		}
		for _, x := range some {
			grow(append(slices.Clone(b), x))
		}
	}
	grow(nil)
}

func TestWhatIsDecodedIsEncodedAsItWas(t *testing.T) {
	letters, lists := 0, 0
	eachShort(7, func(b []byte) {
		if l, e := letter.Decode(b); e == api.OK {
			letters++
			if back := mustEncode(t, l); !bytes.Equal(back, b) {
				t.Fatalf("%x came back as %x", b, back)
			}
		}
		if list, e := letter.Unpack(b); e == api.OK {
			lists++
			if back := mustPack(t, list); !bytes.Equal(back, b) {
				t.Fatalf("%x came back as %x", b, back)
			}
		}
	})
	if letters == 0 || lists == 0 {
		t.Errorf("of all short bytes %d letters, %d lists", letters, lists)
	}
}

func TestOtherBytesAreOtherLetters(t *testing.T) {
	r := rand.New(rand.NewSource(13))
	for range 3000 {
		l := anyLetter(r)
		b := mustEncode(t, l)
		b[r.Intn(len(b))] ^= byte(1 + r.Intn(255))
		other, e := letter.Decode(b)
		if e == api.ErrForm {
			wantNoLetter(t, "a byte is another", b)
			continue
		}
		if e != api.OK || letter.Same(other, l) || !bytes.Equal(mustEncode(t, other), b) {
			t.Fatalf("%x is %v, %v", b, other, e)
		}
	}
}

// R2 and R4: the same answers, and lists of no elements.

func TestNoArgsAreNilOrEmpty(t *testing.T) {
	without := []api.Letter{{From: "a"}, {From: "a", Args: []int64{}}, {From: "a", Args: make([]int64, 0, 9)}, {From: "a", Args: []int64{7, 8}[:0]}}
	for _, a := range without {
		for _, b := range without {
			if !letter.Same(a, b) {
				t.Errorf("Same(%#v, %#v) is false", a, b)
			}
		}
		if b := mustEncode(t, a); string(b) != "\x01a\x00\x00\x00" {
			t.Errorf("Encode(%#v) is %x", a, b)
		}
		if c := letter.Copy(a); c.From != "a" || len(c.Args) != 0 {
			t.Errorf("Copy(%#v) is %#v", a, c)
		}
	}
}

func TestAnswersStayTheSame(t *testing.T) {
	for range 3 {
		for _, x := range letterForms {
			if b := mustEncode(t, x.l); !bytes.Equal(b, unhex(t, x.form)) {
				t.Errorf("Encode(%v) is %x", x.l, b)
			}
			if l := mustDecode(t, unhex(t, x.form)); !alike(l, x.l) {
				t.Errorf("Decode(%s) is %v", x.form, l)
			}
		}
		for _, x := range badForms {
			wantNoLetter(t, x.why, unhex(t, x.form))
		}
	}
}

// R3: memory.

// fillBytes overwrites bytes and their spare room.
func fillBytes(b []byte) {
	b = b[:cap(b)]
	for i := range b {
		b[i] = 0xee
	}
}

// fillArgs overwrites arguments and their spare room.
func fillArgs(args []int64) {
	args = args[:cap(args)]
	for i := range args {
		args[i] = -777
	}
}

func TestArgumentsStayAsTheyAre(t *testing.T) {
	room := []int64{1, 2, 3, 4, 5}
	list := []api.Letter{{From: "a", Args: room[:2]}, {From: "b", Args: room[1:4]}, {From: "spare"}}
	letter.Formed(list[0])
	letter.Same(list[0], list[1])
	letter.Copy(list[0])
	mustEncode(t, list[0])
	packed := mustPack(t, list[:2])
	if !slices.Equal(room, []int64{1, 2, 3, 4, 5}) || list[2].From != "spare" || len(list[0].Args) != 2 || len(list[1].Args) != 3 {
		t.Errorf("changed: %v, %v", room, list)
	}
	b := append(packed, 9, 9, 9)
	was := slices.Clone(b)
	mustUnpack(t, b[:len(b)-3])
	mustDecode(t, b[1:1+len(mustEncode(t, list[0]))])
	wantNoList(t, "more", b)
	if !bytes.Equal(b, was) {
		t.Errorf("changed: %x; not %x", b, was)
	}
}

func TestCopyIsNewMemory(t *testing.T) {
	for size := range 2 * mostArgs {
		room := make([]int64, size+3)
		l := api.Letter{From: "a", Args: room[:size]}
		c := letter.Copy(l)
		fillArgs(c.Args)
		if !slices.Equal(room, make([]int64, size+3)) {
			t.Errorf("a copy of %d Args shares them: %v", size, room)
		}
		c = letter.Copy(l)
		fillArgs(room)
		if !slices.Equal(c.Args, make([]int64, size)) {
			t.Errorf("a copy of %d Args shares them: %v", size, c.Args)
		}
	}
}

func TestCopysFromIsNewMemory(t *testing.T) {
	l := api.Letter{From: strings.Repeat("k", mostKey)}
	if c := letter.Copy(l); unsafe.StringData(c.From) == unsafe.StringData(l.From) {
		t.Error("a copy shares From")
	}
}

func TestBytesAreNewMemory(t *testing.T) {
	for _, x := range letterForms {
		first, second := mustEncode(t, x.l), mustEncode(t, x.l)
		fillBytes(first)
		if !bytes.Equal(second, unhex(t, x.form)) {
			t.Errorf("two answers of Encode share memory: %x", second)
		}
	}
	list := someLetters()
	first, second := mustPack(t, list), mustPack(t, list)
	fillBytes(first)
	if !allAlike(mustUnpack(t, second), list) {
		t.Errorf("two answers of Pack share memory: %x", second)
	}
}

func TestLettersAreNewMemory(t *testing.T) {
	for _, x := range letterForms {
		b := unhex(t, x.form)
		first, second := mustDecode(t, b), mustDecode(t, b)
		fillBytes(b)
		fillArgs(first.Args)
		if !alike(second, x.l) || first.From != x.l.From {
			t.Errorf("Decode shares memory: %v, %v; not %v", first, second, x.l)
		}
	}
}

func TestListsOfOneAnswerShareNothing(t *testing.T) {
	want := someLetters()
	b := mustPack(t, want)
	list, other := mustUnpack(t, b), mustUnpack(t, b)
	fillBytes(b)
	for i := range list {
		fillArgs(list[i].Args)
		if !allAlike(list[i+1:], want[i+1:]) {
			t.Fatalf("the Args at %d are shared: %v", i, list)
		}
	}
	room := list[:cap(list)]
	for i := range room {
		room[i] = api.Letter{From: "filled"}
	}
	if !allAlike(other, want) {
		t.Errorf("two answers of Unpack share memory: %v", other)
	}
}
