package actor_test

import (
	"bytes"
	"encoding/hex"
	"math"
	"math/rand"
	"reflect"
	"slices"
	"strconv"
	"strings"
	"testing"
	"unsafe"

	"reeve/actor"
	"reeve/api"
	"reeve/codec"
	"reeve/inbox"
	"reeve/journal"
	"reeve/letter"
	"reeve/outbox"
)

// The limits, as DOC.md and the chapters tell them.
const (
	mostKey     = 40
	mostArgs    = 4
	mostInbox   = 8
	mostPoison  = mostInbox
	mostTries   = 2
	mostWaiting = 32
	mostTargets = 64
	mostEvents  = 16
)

// told is all that an actor tells, with nil for lists of no elements.
type told struct {
	key     string
	fresh   bool
	version uint64
	base    [8]int64
	state   [8]int64
	events  []journal.Event
	inbox   []api.Letter
	outbox  []outbox.Out
	serials string
	tries   int
	poison  []api.Letter
}

// tell asks an actor for all of it, in memory of its own.
func tell(a *actor.Actor) told {
	x := told{
		key: a.Key(), fresh: a.Fresh(),
		version: a.Journal.Version(), base: a.Journal.Base(), state: a.Journal.State(),
		events: noneIsNil(a.Journal.Events()),
		inbox:  plain(a.Inbox.All()),
		// The outbox tells no list of its serials; its bytes have them all.
		outbox: noneIsNil(a.Outbox.All()), serials: string(a.Outbox.Encode()),
		tries: a.Tries, poison: plain(a.Poison),
	}
	for at := range x.outbox {
		x.outbox[at].Letter = plain([]api.Letter{x.outbox[at].Letter})[0]
	}
	return x
}

func noneIsNil[T any](list []T) []T {
	if len(list) == 0 {
		return nil
	}
	return list
}

// plain is the same letters in memory of their own, with nil for no elements.
func plain(list []api.Letter) []api.Letter {
	list = noneIsNil(slices.Clone(list))
	for at := range list {
		list[at].Args = noneIsNil(slices.Clone(list[at].Args))
	}
	return list
}

// wantTold holds all that an actor tells against what it should tell.
func wantTold(t *testing.T, what string, a *actor.Actor, want told) {
	t.Helper()
	if x := tell(a); !reflect.DeepEqual(x, want) {
		t.Errorf("%s: told is\n%v; not\n%v", what, x, want)
	}
}

// form is the bytes of tries and parts, whether or not an actor may have them.
func form(tries uint64, parts ...[]byte) []byte {
	w := codec.NewWriter()
	w.Number(tries)
	for _, part := range parts {
		w.Text(string(part))
	}
	return w.Bytes()
}

// listForm is the bytes of a list of letters, whether or not they are formed.
func listForm(list ...api.Letter) []byte {
	w := codec.NewWriter()
	w.Number(uint64(len(list)))
	for _, l := range list {
		w.Text(l.From)
		w.Number(l.Serial)
		w.Int(l.Kind)
		w.Number(uint64(len(l.Args)))
		for _, n := range l.Args {
			w.Int(n)
		}
	}
	return w.Bytes()
}

// formOf is the bytes that an actor should have.
func formOf(a *actor.Actor) []byte {
	return form(uint64(a.Tries), a.Journal.Encode(), a.Inbox.Encode(), a.Outbox.Encode(), listForm(a.Poison...))
}

// unhex makes bytes of hexadecimal digits with spaces between.
func unhex(t *testing.T, form string) []byte {
	t.Helper()
	b, err := hex.DecodeString(strings.ReplaceAll(form, " ", ""))
	if err != nil {
		t.Fatalf("%q: %v", form, err)
	}
	return b
}

func mustNew(t *testing.T, key string) *actor.Actor {
	t.Helper()
	a, e := actor.New(key)
	if e != api.OK || a == nil {
		t.Fatalf("New(%q): %v, %v", key, a, e)
	}
	return a
}

func mustDecode(t *testing.T, b []byte) *actor.Actor {
	t.Helper()
	a, e := actor.Decode(b)
	if e != api.OK || a == nil {
		t.Fatalf("Decode(%x): %v, %v", b, a, e)
	}
	return a
}

// wantForm holds Encode against the bytes that the actor should have.
func wantForm(t *testing.T, what string, a *actor.Actor, want []byte) {
	t.Helper()
	if b, e := a.Encode(); e != api.OK || !bytes.Equal(b, want) {
		t.Errorf("%s: Encode is %x, %v; not %x", what, b, e, want)
	}
}

// wantRefused holds Encode against ErrArg, beside which there are no bytes.
func wantRefused(t *testing.T, why string, a *actor.Actor) {
	t.Helper()
	if b, e := a.Encode(); e != api.ErrArg || len(b) != 0 {
		t.Errorf("%s: Encode is %x, %v", why, b, e)
	}
}

// wantNoActor holds Decode against ErrForm, beside which there is no actor.
func wantNoActor(t *testing.T, why string, b []byte) {
	t.Helper()
	if a, e := actor.Decode(b); e != api.ErrForm || a != nil {
		t.Errorf("%s: Decode(%x) is %v, %v", why, b, a, e)
	}
}

// wantBack holds the way there and back against the actor.
func wantBack(t *testing.T, what string, a *actor.Actor) {
	t.Helper()
	wantForm(t, what, a, formOf(a))
	b := mustDecode(t, formOf(a))
	wantTold(t, what, b, tell(a))
	wantForm(t, what+", back", b, formOf(a))
}

// push, send and add do to the actor's parts what these must not refuse.

func push(t *testing.T, a *actor.Actor, list ...api.Letter) {
	t.Helper()
	for _, l := range list {
		if e := a.Inbox.Push(l); e != api.OK {
			t.Fatalf("Push(%v): %v", l, e)
		}
	}
}

func send(t *testing.T, a *actor.Actor, to string, args ...int64) {
	t.Helper()
	if _, e := a.Outbox.Send(to, 1, args); e != api.OK {
		t.Fatalf("Send to %q: %v", to, e)
	}
}

func add(t *testing.T, a *actor.Actor, list ...journal.Event) {
	t.Helper()
	if e := a.Journal.Add(list); e != api.OK {
		t.Fatalf("Add(%v): %v", list, e)
	}
}

// someLetters are formed letters, as many as asked for, each another one.
func someLetters(count int) []api.Letter {
	kinds := []api.Letter{
		{From: "a", Serial: 1, Kind: 5, Args: []int64{-1}},
		{},
		{From: strings.Repeat("k", mostKey), Serial: math.MaxUint64, Kind: math.MinInt64, Args: []int64{1, 2, math.MaxInt64, math.MinInt64}},
		{From: "\x00\xff", Kind: math.MaxInt64, Args: []int64{0, 124}},
	}
	var list []api.Letter
	for at := range count {
		l := kinds[at%len(kinds)]
		l.Serial += uint64(at)
		list = append(list, l)
	}
	return plain(list)
}

// some is an actor that has something of all.
func some(t *testing.T) *actor.Actor {
	t.Helper()
	a := mustNew(t, "me")
	add(t, a, journal.Event{Register: 3, Value: 9}, journal.Event{Register: 0, Value: -1})
	push(t, a, someLetters(3)...)
	send(t, a, "b", 1, -2)
	send(t, a, "c")
	a.Outbox.Pop()
	a.Tries = 1
	a.Poison = someLetters(2)
	return a
}

// full is an actor that has as much of all as it may have.
func full(t *testing.T) *actor.Actor {
	t.Helper()
	a := mustNew(t, strings.Repeat("m", mostKey))
	for at := range 2 * mostEvents {
		add(t, a, journal.Event{Register: at % 8, Value: math.MinInt64 + int64(at)})
	}
	push(t, a, someLetters(mostInbox)...)
	for at := range mostTargets {
		send(t, a, strings.Repeat("t", mostKey-2)+string(rune('0'+at/8))+string(rune('0'+at%8)), 1, 2, 3, math.MinInt64)
		if at >= mostWaiting {
			continue
		}
		a.Outbox.Pop()
	}
	a.Tries = mostTries
	a.Poison = someLetters(mostPoison)
	return a
}

// anyActor makes an actor of which each part is large or small or not there.
func anyActor(t *testing.T, r *rand.Rand) *actor.Actor {
	t.Helper()
	key := make([]byte, 1+r.Intn(mostKey))
	r.Read(key)
	a := mustNew(t, string(key))
	for range r.Intn(2) * r.Intn(30) {
		add(t, a, journal.Event{Register: r.Intn(8), Value: int64(r.Uint64()) >> r.Intn(64)})
	}
	if r.Intn(4) == 0 {
		a.Journal.Fold()
	}
	push(t, a, anyLetters(r, mostInbox)...)
	targets := 1 + r.Intn(9)
	for range r.Intn(2) * r.Intn(mostWaiting) {
		send(t, a, strconv.Itoa(r.Intn(targets)), anyLetter(r).Args...)
	}
	for range r.Intn(9) {
		a.Outbox.Pop()
	}
	if a.Inbox.Len() > 0 {
		a.Tries = r.Intn(mostTries + 1)
	}
	a.Poison = anyLetters(r, mostPoison)
	return a
}

// anyLetter makes a formed letter whose parts have all lengths.
func anyLetter(r *rand.Rand) api.Letter {
	from := make([]byte, r.Intn(2)*r.Intn(mostKey+1))
	r.Read(from)
	l := api.Letter{From: string(from), Serial: r.Uint64() >> r.Intn(64), Kind: int64(r.Uint64()) >> r.Intn(64)}
	for range r.Intn(mostArgs + 1) {
		l.Args = append(l.Args, int64(r.Uint64())>>r.Intn(64))
	}
	return l
}

// anyLetters makes at most that many formed letters.
func anyLetters(r *rand.Rand, most int) []api.Letter {
	var list []api.Letter
	for range r.Intn(2) * r.Intn(most+1) {
		list = append(list, anyLetter(r))
	}
	return list
}

func TestExamples(t *testing.T) {
	a := mustNew(t, "a")
	if !a.Fresh() {
		t.Error("New(a) isn't fresh")
	}
	b, e := a.Encode()
	if e != api.OK {
		t.Fatal(e)
	}
	wantTold(t, "Encode, Decode", mustDecode(t, b), tell(a))
}

func TestLimitsAreTheDocuments(t *testing.T) {
	if api.MaxKey != mostKey || api.MaxArgs != mostArgs || api.MaxInbox != mostInbox ||
		api.MaxPoison-1 != mostTries || api.MaxWaiting != mostWaiting || api.MaxEvents != mostEvents {
		t.Error("a limit is another one")
	}
}

// P19.1: new actors, their keys, and which ones are fresh.

func TestNewOfAKey(t *testing.T) {
	keys := []string{"a", "\x00", "\xff\xfe", " ", "é", strings.Repeat("é", 20)}
	for size := 1; size <= mostKey; size++ {
		keys = append(keys, strings.Repeat("k", size))
	}
	for _, key := range keys {
		a := mustNew(t, key)
		o, _ := outbox.New(key)
		wantTold(t, "new", a, told{key: key, fresh: true, serials: string(o.Encode())})
		if a.Journal == nil || a.Inbox == nil || a.Outbox == nil || a.Tries != 0 || len(a.Poison) != 0 {
			t.Errorf("New(%q) is %v", key, *a)
		}
	}
}

func TestNewOfNoKey(t *testing.T) {
	for _, key := range []string{"", strings.Repeat("k", mostKey+1), strings.Repeat("é", 21), strings.Repeat("k", 300), strings.Repeat("k", 1<<16+1)} {
		if a, e := actor.New(key); e != api.ErrArg || a != nil {
			t.Errorf("New(%q) is %v, %v", key, a, e)
		}
	}
}

func TestPartsOfANewActorTakeAll(t *testing.T) {
	for _, a := range []*actor.Actor{full(t), some(t)} {
		wantBack(t, "new, and all that was done", a)
	}
}

func TestKeyIsTheOutboxesOwner(t *testing.T) {
	a := mustNew(t, "a")
	for _, key := range []string{"b", "a", strings.Repeat("k", mostKey)} {
		a.Outbox, _ = outbox.New(key)
		if a.Key() != key {
			t.Errorf("Key is %q; not %q", a.Key(), key)
		}
	}
	if key := some(t).Key(); key != "me" {
		t.Errorf("Key of one that has something of all is %q", key)
	}
	if key := (&actor.Actor{Outbox: a.Outbox}).Key(); key != strings.Repeat("k", mostKey) {
		t.Errorf("Key of an outbox alone is %q", key)
	}
	for _, o := range []*outbox.Outbox{nil, {}} {
		a.Outbox = o
		if a.Key() != "" {
			t.Errorf("Key of nobody's outbox is %q", a.Key())
		}
	}
}

// changes are things of which any one alone makes that an actor isn't fresh.
var changes = []struct {
	what string
	do   func(t *testing.T, a *actor.Actor)
}{
	{"an event", func(t *testing.T, a *actor.Actor) { add(t, a, journal.Event{Register: 7, Value: 1}) }},
	{"an event that sets a nought", func(t *testing.T, a *actor.Actor) { add(t, a, journal.Event{}) }},
	{"an event and its way back", func(t *testing.T, a *actor.Actor) {
		add(t, a, journal.Event{Value: 1}, journal.Event{Value: 0})
	}},
	{"an event that was folded", func(t *testing.T, a *actor.Actor) {
		add(t, a, journal.Event{})
		a.Journal.Fold()
	}},
	{"a letter", func(t *testing.T, a *actor.Actor) { push(t, a, api.Letter{}) }},
	{"eight letters", func(t *testing.T, a *actor.Actor) { push(t, a, someLetters(mostInbox)...) }},
	{"a letter on its way out", func(t *testing.T, a *actor.Actor) { send(t, a, "b") }},
	{"a letter to itself", func(t *testing.T, a *actor.Actor) { send(t, a, a.Key()) }},
	{"a serial", func(t *testing.T, a *actor.Actor) {
		send(t, a, "b")
		a.Outbox.Pop()
	}},
	{"a serial of a short key", func(t *testing.T, a *actor.Actor) {
		send(t, a, "\x00")
		a.Outbox.Pop()
	}},
	{"a try", func(t *testing.T, a *actor.Actor) { a.Tries = 1 }},
	{"two tries", func(t *testing.T, a *actor.Actor) { a.Tries = 2 }},
	{"too many tries", func(t *testing.T, a *actor.Actor) { a.Tries = math.MaxInt }},
	{"tries below 0", func(t *testing.T, a *actor.Actor) { a.Tries = -1 }},
	{"a poison letter", func(t *testing.T, a *actor.Actor) { a.Poison = []api.Letter{{}} }},
	{"a poison letter that isn't formed", func(t *testing.T, a *actor.Actor) {
		a.Poison = []api.Letter{{Args: make([]int64, mostArgs+1)}}
	}},
	{"too many poison letters", func(t *testing.T, a *actor.Actor) { a.Poison = someLetters(mostPoison + 1) }},
}

func TestOneThatHasAnythingIsNotFresh(t *testing.T) {
	for _, x := range changes {
		for _, key := range []string{"a", strings.Repeat("k", mostKey)} {
			a := mustNew(t, key)
			x.do(t, a)
			if a.Fresh() {
				t.Errorf("%s: fresh", x.what)
			}
		}
		// Of a zero actor with just this, as of a new one.
		o, _ := outbox.New("a")
		a := &actor.Actor{Journal: &journal.Journal{}, Inbox: &inbox.Inbox{}, Outbox: o}
		if !a.Fresh() {
			t.Error("one of zero parts isn't fresh")
		}
		x.do(t, a)
		if a.Fresh() {
			t.Errorf("%s, in zero parts: fresh", x.what)
		}
	}
}

func TestOneThatHasNothingAnyMoreIsFresh(t *testing.T) {
	a := mustNew(t, "a")
	push(t, a, someLetters(mostInbox)...)
	a.Tries = 2
	a.Poison = someLetters(3)
	for range mostInbox {
		if a.Fresh() {
			t.Error("fresh, while a letter waits")
		}
		a.Inbox.Pop()
	}
	if a.Fresh() {
		t.Error("fresh with tries and poison")
	}
	a.Tries = 0
	if a.Fresh() {
		t.Error("fresh with poison")
	}
	a.Poison = a.Poison[:0]
	if !a.Fresh() {
		t.Error("one that has nothing any more isn't fresh")
	}
	if e := a.Journal.Add(nil); e != api.OK || a.Journal.Fold() != 0 || !a.Fresh() {
		t.Errorf("not fresh, since no events were added: %v", e)
	}
	if _, e := a.Outbox.Send("", 0, nil); e != api.ErrArg || !a.Fresh() {
		t.Errorf("not fresh, since a letter was refused: %v", e)
	}
}

// TestFreshAsksTheVersionAlone: the chapter's list names the version, and not the registers.
func TestFreshAsksTheVersionAlone(t *testing.T) {
	a := mustNew(t, "a")
	j, e := journal.Decode(unhex(t, "00 12 00000000000000 00"))
	if e != api.OK {
		t.Fatal(e)
	}
	a.Journal = j
	if !a.Fresh() {
		t.Error("version 0 isn't fresh")
	}
	wantBack(t, "version 0", a)
}

func TestFreshOfPartsThatAreNotThere(t *testing.T) {
	for mask := range 8 {
		a := mustNew(t, "a")
		dropParts(a, mask)
		if !a.Fresh() {
			t.Errorf("parts %b are gone: not fresh", mask)
		}
		a.Tries = 1
		if a.Fresh() {
			t.Errorf("parts %b are gone: fresh with a try", mask)
		}
	}
	for _, x := range changes {
		for mask := range 8 {
			whole := mustNew(t, "a")
			x.do(t, whole)
			left := *whole
			dropParts(&left, mask)
			left.Tries, left.Poison = 0, nil
			want := (left.Journal == nil || left.Journal.Version() == 0) && (left.Inbox == nil || left.Inbox.Len() == 0) &&
				(left.Outbox == nil || len(left.Outbox.Encode()) == len("\x01a\x00\x00"))
			if left.Fresh() != want {
				t.Errorf("%s, parts %b are gone: fresh is %v", x.what, mask, left.Fresh())
			}
		}
	}
}

// dropParts makes the parts nil whose bit is set.
func dropParts(a *actor.Actor, mask int) {
	if mask&1 != 0 {
		a.Journal = nil
	}
	if mask&2 != 0 {
		a.Inbox = nil
	}
	if mask&4 != 0 {
		a.Outbox = nil
	}
}

// P19.2: Encode.

func TestEncodeIsTheChaptersForm(t *testing.T) {
	a := mustNew(t, "a")
	wantForm(t, "new", a, unhex(t, "00 0a 00000000000000000000 01 00 04 01610000 01 00"))
	add(t, a, journal.Event{Register: 3, Value: 9})
	push(t, a, api.Letter{Kind: 5})
	send(t, a, "b")
	a.Tries = 2
	a.Poison = []api.Letter{{From: "c", Kind: 7, Args: []int64{-1}}}
	wantForm(t, "with something of all", a, unhex(t, "02"+
		"0c 01 0000000000000000 01 03 12"+
		"05 01 00 00 0a 00"+
		"0f 0161 01 0162 01 01 0162 05 0161010200"+
		"07 01 0163 00 0e 01 01"))
}

func TestEncodeOfPartsOfAllLengths(t *testing.T) {
	r := rand.New(rand.NewSource(191))
	for range 2000 {
		wantBack(t, "any", anyActor(t, r))
	}
	wantBack(t, "some", some(t))
	wantBack(t, "full", full(t))
}

func TestEncodeAtTheLimits(t *testing.T) {
	for waiting := range mostInbox + 1 {
		for tries := range mostTries + 1 {
			for poison := range mostPoison + 1 {
				a := mustNew(t, "a")
				push(t, a, someLetters(waiting)...)
				a.Tries, a.Poison = tries, someLetters(poison)
				if tries > 0 && waiting == 0 {
					wantRefused(t, "tries without a letter", a)
					continue
				}
				wantBack(t, "within the limits", a)
			}
		}
	}
}

func TestEncodeOfZeroParts(t *testing.T) {
	a := mustNew(t, "a")
	want := formOf(a)
	a.Journal, a.Inbox = &journal.Journal{}, &inbox.Inbox{}
	wantForm(t, "a zero journal and a zero inbox", a, want)
}

// unfit are changes behind which no part of an actor may be as it is.
func unfit() map[string]func(a *actor.Actor) {
	list := map[string]func(a *actor.Actor){
		"no owner":                 func(a *actor.Actor) { a.Outbox = &outbox.Outbox{} },
		"tries, and no letter":     func(a *actor.Actor) { a.Tries, a.Inbox = 1, inbox.New() },
		"two tries, and no letter": func(a *actor.Actor) { a.Tries, a.Inbox = 2, &inbox.Inbox{} },
	}
	for mask := 1; mask < 8; mask++ {
		list["without the parts "+strconv.Itoa(mask)] = func(a *actor.Actor) { dropParts(a, mask) }
		list["without tries and the parts "+strconv.Itoa(mask)] = func(a *actor.Actor) {
			dropParts(a, mask)
			a.Tries = 0
		}
	}
	for _, tries := range []int{-1, -2, mostTries + 1, mostTries + 2, 256, 257, 1 << 32, 1<<32 + 1, math.MaxInt, math.MinInt, math.MinInt + 1} {
		list["tries "+strconv.Itoa(tries)] = func(a *actor.Actor) { a.Tries = tries }
	}
	for _, count := range []int{mostPoison + 1, mostPoison + 2, 256, 300} {
		list["poison letters "+strconv.Itoa(count)] = func(a *actor.Actor) { a.Poison = make([]api.Letter, count) }
	}
	for at := range mostPoison + 1 {
		list["not formed, From "+strconv.Itoa(at)] = func(a *actor.Actor) {
			a.Poison = someLetters(max(mostPoison, at+1))
			a.Poison[at].From = strings.Repeat("k", mostKey+1)
		}
		list["not formed, Args "+strconv.Itoa(at)] = func(a *actor.Actor) {
			a.Poison = someLetters(at + 1)
			a.Poison[at].Args = make([]int64, mostArgs+1)
		}
	}
	return list
}

func TestEncodeOfWhatNoActorHas(t *testing.T) {
	for why, do := range unfit() {
		for _, a := range []*actor.Actor{some(t), full(t)} {
			do(a)
			was := tell(a)
			wantRefused(t, why, a)
			wantTold(t, why, a, was)
		}
	}
	wantRefused(t, "zero", &actor.Actor{})
	wantRefused(t, "zero parts", &actor.Actor{Journal: &journal.Journal{}, Inbox: &inbox.Inbox{}, Outbox: &outbox.Outbox{}})
}

func TestEncodeGoesOnBehindAnError(t *testing.T) {
	for why, do := range unfit() {
		a := some(t)
		was := *a
		do(a)
		wantRefused(t, why, a)
		*a = was
		wantForm(t, "mended", a, formOf(some(t)))
	}
}

// P19.2: Decode.

func TestDecodeIsThatActor(t *testing.T) {
	a := mustDecode(t, unhex(t, "02"+
		"0c 01 0000000000000000 01 03 12"+
		"05 01 00 00 0a 00"+
		"0f 0161 01 0162 01 01 0162 05 0161010200"+
		"07 01 0163 00 0e 01 01"))
	sent := outbox.Out{To: "b", Letter: api.Letter{From: "a", Serial: 1, Kind: 1}}
	wantTold(t, "something of all", a, told{
		key: "a", version: 1, state: [8]int64{3: 9},
		events: []journal.Event{{Register: 3, Value: 9}},
		inbox:  []api.Letter{{Kind: 5}},
		outbox: []outbox.Out{sent}, serials: "\x01a\x01\x01b\x01\x01\x01b\x05\x01a\x01\x02\x00",
		tries:  2,
		poison: []api.Letter{{From: "c", Kind: 7, Args: []int64{-1}}},
	})
}

func TestADecodedActorGoesOn(t *testing.T) {
	a := some(t)
	b := mustDecode(t, formOf(a))
	for _, x := range []*actor.Actor{a, b} {
		add(t, x, journal.Event{Register: 1, Value: 8})
		push(t, x, api.Letter{Kind: 8})
		x.Inbox.Pop()
		send(t, x, "b", 3)
		x.Outbox.Pop()
		x.Tries = 2
		x.Poison = append(x.Poison, api.Letter{Kind: 9})
	}
	wantTold(t, "decoded, and gone on", b, tell(a))
	wantBack(t, "decoded, and gone on", b)
}

func TestDecodeOfTries(t *testing.T) {
	a := some(t)
	rest := formOf(a)[1:]
	for tries := range uint64(600) {
		b := form(tries, a.Journal.Encode(), a.Inbox.Encode(), a.Outbox.Encode(), listForm(a.Poison...))
		if tries > mostTries {
			wantNoActor(t, "too many tries", b)
		} else if x := mustDecode(t, b); x.Tries != int(tries) {
			t.Errorf("%d tries are %d", tries, x.Tries)
		}
	}
	for _, first := range []string{
		"f8 01", "f8 02", "f9 0001", "f8 ff", "fa 010000", "fc 0100000000", "fc 0100000001", "fc 0100000002",
		"ff 0000000000000001", "ff 8000000000000000", "ff 8000000000000001", "ff ffffffffffffffff", "ff fffffffffffffffe",
	} {
		wantNoActor(t, "tries "+first, append(unhex(t, first), rest...))
	}
}

func TestDecodeOfTriesWithoutALetter(t *testing.T) {
	a := mustNew(t, "a")
	for tries := range uint64(mostTries + 2) {
		b := form(tries, a.Journal.Encode(), a.Inbox.Encode(), a.Outbox.Encode(), listForm())
		if tries == 0 {
			wantTold(t, "no tries", mustDecode(t, b), tell(a))
		} else {
			wantNoActor(t, "tries without a letter", b)
		}
	}
}

func TestDecodeOfAsManyLettersAsThereMayBe(t *testing.T) {
	a := some(t)
	j, o := a.Journal.Encode(), a.Outbox.Encode()
	for waiting := range 2 * mostInbox {
		for poison := range 2 * mostPoison {
			b := form(0, j, listForm(someLetters(waiting)...), o, listForm(someLetters(poison)...))
			if waiting > mostInbox || poison > mostPoison {
				wantNoActor(t, "too many letters", b)
				continue
			}
			x := mustDecode(t, b)
			if x.Inbox.Len() != waiting || len(x.Poison) != poison {
				t.Errorf("of %d and %d letters are %d and %d", waiting, poison, x.Inbox.Len(), len(x.Poison))
			}
		}
	}
	wantNoActor(t, "300 poison letters", form(0, j, listForm(), o, listForm(someLetters(300)...)))
}

// TestDecodeOfAWrongPart lays in place of each part bytes that are no such part's.
func TestDecodeOfAWrongPart(t *testing.T) {
	a := some(t)
	good := [][]byte{a.Journal.Encode(), a.Inbox.Encode(), a.Outbox.Encode(), listForm(a.Poison...)}
	mustDecode(t, form(1, good...))
	long := api.Letter{From: strings.Repeat("k", mostKey+1)}
	wrong := [][]string{
		{"", "00", "00 0000000000000000", "00 0000000000000000 01 00 00", "01 0000000000000000 01 08 00", "f801 0000000000000000 00"},
		{"", "01", "02 00000000", hex.EncodeToString(listForm(long)), "f9ffff", "ff ffffffffffffffff"},
		{"", "00 00 00", "01 6d 01 0162 00 00", "01 6d 00 01 0162 05 016d010200", hex.EncodeToString(form(mostKey+1)) + strings.Repeat("6b", mostKey+1) + "00 00"},
		{"", "01", "02 00000000", hex.EncodeToString(listForm(long)), hex.EncodeToString(listForm(api.Letter{Args: make([]int64, mostArgs+1)})), "f9ffff", "ff ffffffffffffffff"},
	}
	for at, part := range good {
		bad := [][]byte{append(slices.Clone(part), 0), part[:len(part)-1], append([]byte{0}, part...)}
		for _, x := range wrong[at] {
			bad = append(bad, unhex(t, x))
		}
		for _, x := range bad {
			parts := slices.Clone(good)
			parts[at] = x
			for tries := range uint64(mostTries + 1) {
				wantNoActor(t, "part "+strconv.Itoa(at), form(tries, parts...))
			}
		}
	}
}

func TestDecodeOfPartsInAnotherOrder(t *testing.T) {
	a := full(t)
	parts := [][]byte{a.Journal.Encode(), a.Inbox.Encode(), a.Outbox.Encode(), listForm(a.Poison[:3]...)}
	for first := range parts {
		for second := range first {
			x := slices.Clone(parts)
			x[first], x[second] = x[second], x[first]
			if second == 1 && first == 3 {
				// Both are lists of letters, so that these are another actor's.
				b := mustDecode(t, form(1, x...))
				if b.Inbox.Len() != 3 || len(b.Poison) != mostInbox {
					t.Errorf("%d wait, %d are poison", b.Inbox.Len(), len(b.Poison))
				}
				continue
			}
			wantNoActor(t, "another order", form(1, x...))
		}
	}
}

func TestDecodeOfLessOrMore(t *testing.T) {
	for _, a := range []*actor.Actor{mustNew(t, "a"), some(t), full(t)} {
		b := formOf(a)
		for size := range b {
			wantNoActor(t, "less", b[:size])
		}
		for x := range 256 {
			wantNoActor(t, "more", append(slices.Clone(b), byte(x)))
		}
		wantNoActor(t, "twice", append(slices.Clone(b), b...))
		wantNoActor(t, "one text more", append(slices.Clone(b), 1, 0))
		wantNoActor(t, "without tries", b[1:])
		wantNoActor(t, "one number ahead", append([]byte{0}, b...))
		parts := [][]byte{a.Journal.Encode(), a.Inbox.Encode(), a.Outbox.Encode(), listForm(a.Poison...)}
		for count := range parts {
			wantNoActor(t, "fewer parts", form(0, parts[:count]...))
		}
	}
}

func TestDecodeOfOtherBytes(t *testing.T) {
	for _, b := range [][]byte{nil, {}, make([]byte, 0, 9), {0}, {1}, make([]byte, 5), make([]byte, 300), bytes.Repeat([]byte{0xff}, 300)} {
		wantNoActor(t, "other bytes", b)
	}
	for _, x := range []string{
		// A part's length that is written with a byte too many, or claims more than there is.
		"00 f80a 00000000000000000000 01 00 04 01610000 01 00",
		"00 0a 00000000000000000000 f801 00 04 01610000 01 00",
		"00 0a 00000000000000000000 01 00 04 01610000 02 00",
		"00 0a 00000000000000000000 01 00 04 01610000 ffffffffffffffffff 00",
		"00 ffffffffffffffffff 00000000000000000000 01 00 04 01610000 01 00",
		"00 0a 00000000000000000000 01 00 03 016100 00 01 00",
	} {
		wantNoActor(t, "other bytes", unhex(t, x))
	}
	r := rand.New(rand.NewSource(192))
	for range 20000 {
		b := make([]byte, r.Intn(40))
		r.Read(b)
		wantNoActor(t, "any bytes", b)
	}
}

// isActors tells whether the bytes are an actor's, as the chapter has it, and which.
func isActors(b []byte) (told, bool) {
	r := codec.NewReader(b)
	tries := r.Number()
	texts := []string{r.Text(), r.Text(), r.Text(), r.Text()}
	if !r.End() || tries > mostTries {
		return told{}, false
	}
	j, e1 := journal.Decode([]byte(texts[0]))
	i, e2 := inbox.Decode([]byte(texts[1]))
	o, e3 := outbox.Decode([]byte(texts[2]))
	poison, e4 := letter.Unpack([]byte(texts[3]))
	for _, e := range []api.Errno{e1, e2, e3, e4} {
		if e != api.OK {
			return told{}, false
		}
	}
	if len(poison) > mostPoison || tries > 0 && i.Len() == 0 {
		return told{}, false
	}
	return tell(&actor.Actor{Journal: j, Inbox: i, Outbox: o, Tries: int(tries), Poison: poison}), true
}

// TestDecodeOfNearlyRightBytes changes a few bytes, or none, of actors of all kinds.
func TestDecodeOfNearlyRightBytes(t *testing.T) {
	r := rand.New(rand.NewSource(193))
	good, all := 0, 20000
	for range all {
		b := formOf(anyActor(t, r))
		for range r.Intn(3) {
			b[r.Intn(len(b))] ^= byte(1 << r.Intn(8))
		}
		want, ok := isActors(b)
		if !ok {
			wantNoActor(t, "nearly right", b)
			continue
		}
		good++
		a := mustDecode(t, b)
		wantTold(t, "nearly right", a, want)
		wantForm(t, "nearly right", a, b)
		if t.Failed() {
			return
		}
	}
	if good < all/4 || good > all*9/10 {
		t.Errorf("%d of %d are actors", good, all)
	}
}

// TestDecodeOfEachByteChanged sets each byte of a few actors to each other one.
func TestDecodeOfEachByteChanged(t *testing.T) {
	for _, a := range []*actor.Actor{mustNew(t, "a"), some(t)} {
		b := formOf(a)
		for at := range b {
			was := b[at]
			for x := range 256 {
				b[at] = byte(x)
				want, ok := isActors(b)
				if !ok {
					wantNoActor(t, "a byte changed", b)
					continue
				}
				back := mustDecode(t, b)
				wantTold(t, "a byte changed", back, want)
				wantForm(t, "a byte changed", back, b)
			}
			b[at] = was
		}
	}
}

// R1 and R2: nil, and the actor's history alone.

func TestNilActor(t *testing.T) {
	var a *actor.Actor
	if a.Key() != "" || a.Fresh() {
		t.Errorf("Key is %q, Fresh %v", a.Key(), a.Fresh())
	}
	wantRefused(t, "nil", a)
}

func TestCallsChangeNothing(t *testing.T) {
	for _, a := range []*actor.Actor{mustNew(t, "a"), some(t), full(t)} {
		was, whole := tell(a), *a
		for range 5 {
			a.Key()
			a.Fresh()
			wantForm(t, "again", a, formOf(a))
			wantTold(t, "behind the calls", a, was)
			wantTold(t, "decoded again", mustDecode(t, formOf(a)), was)
		}
		if a.Journal != whole.Journal || a.Inbox != whole.Inbox || a.Outbox != whole.Outbox {
			t.Error("a part is another one")
		}
	}
}

func TestEachActorIsForItself(t *testing.T) {
	a, b := mustNew(t, "a"), mustNew(t, "a")
	c, d := mustDecode(t, formOf(some(t))), mustDecode(t, formOf(some(t)))
	wasB, wasD := tell(b), tell(d)
	for _, x := range []*actor.Actor{a, c} {
		add(t, x, journal.Event{Value: 1})
		push(t, x, api.Letter{Kind: 1})
		send(t, x, "b")
		x.Tries++
		x.Poison = append(x.Poison, api.Letter{Kind: 1})
	}
	wantTold(t, "the other new one", b, wasB)
	wantTold(t, "the other decoded one", d, wasD)
}

func TestEncodeTellsTheActorAsItIs(t *testing.T) {
	a := mustNew(t, "a")
	for n := range 3 {
		wantBack(t, "as it is", a)
		add(t, a, journal.Event{Value: int64(n)})
		wantBack(t, "an event more", a)
		push(t, a, api.Letter{Kind: int64(n)})
		wantBack(t, "a letter more", a)
		send(t, a, "b", int64(n))
		wantBack(t, "a letter on its way out more", a)
		a.Tries = n
		wantBack(t, "a try more", a)
		a.Poison = append(a.Poison, api.Letter{Kind: int64(n)})
		wantBack(t, "a poison letter more", a)
	}
	before := formOf(a)
	a.Poison[1].Kind = 77
	wantForm(t, "a poison letter changed", a, formOf(a))
	if bytes.Equal(before, formOf(a)) {
		t.Error("the change isn't told")
	}
}

// R3: memory.

// fillBytes overwrites bytes and their spare room.
func fillBytes(b []byte) {
	b = b[:cap(b)]
	for at := range b {
		b[at] = 0xee
	}
}

// fillArgs overwrites arguments and their spare room.
func fillArgs(args []int64) {
	args = args[:cap(args)]
	for at := range args {
		args[at] = -777
	}
}

func TestTheKeyIsNotKept(t *testing.T) {
	key := []byte("me")
	a := mustNew(t, unsafe.String(&key[0], len(key)))
	fillBytes(key)
	wantTold(t, "the key was filled", a, tell(mustNew(t, "me")))
}

func TestKeyIsNewMemory(t *testing.T) {
	given := strings.Repeat("k", mostKey)
	a := mustNew(t, given)
	first, second := a.Key(), a.Key()
	seen := map[*byte]bool{}
	for _, s := range []string{given, first, second} {
		if seen[unsafe.StringData(s)] {
			t.Errorf("%q is shared", s)
		}
		seen[unsafe.StringData(s)] = true
	}
}

func TestEncodeIsNewMemory(t *testing.T) {
	a := full(t)
	want := formOf(a)
	first, _ := a.Encode()
	second, _ := a.Encode()
	fillBytes(first)
	if !bytes.Equal(second, want) {
		t.Error("two answers of Encode share memory")
	}
	wantForm(t, "Encode's answer was filled", a, want)
	add(t, a, journal.Event{Value: 5})
	a.Inbox.Pop()
	a.Poison[0].Kind++
	if !bytes.Equal(second, want) {
		t.Error("a call changed what Encode told")
	}
}

func TestEncodeLeavesThePoisonAsItIs(t *testing.T) {
	for count := range mostPoison + 3 {
		a := some(t)
		room := someLetters(mostPoison + 5)
		for at := range room {
			room[at].Args = append(make([]int64, 0, 9), room[at].Args...)
		}
		was := plain(room)
		a.Poison = room[:count]
		a.Encode()
		a.Fresh()
		if len(a.Poison) != count || !reflect.DeepEqual(plain(room), was) {
			t.Errorf("%d poison letters: changed to %v", count, room)
		}
		for at := range room {
			args := room[at].Args
			if spare := args[len(args):cap(args)]; slices.ContainsFunc(spare, func(n int64) bool { return n != 0 }) {
				t.Errorf("the spare room of letter %d is %v", at, spare)
			}
		}
	}
}

func TestDecodedBytesStayAsTheyAreAndAreNotKept(t *testing.T) {
	for _, a := range []*actor.Actor{mustNew(t, "a"), some(t), full(t)} {
		room := append(formOf(a), 9, 9, 9)
		was := slices.Clone(room)
		b := room[:len(room)-3]
		back := mustDecode(t, b)
		wantNoActor(t, "more", room)
		if !bytes.Equal(room, was) {
			t.Errorf("changed: %x; not %x", room, was)
		}
		fillBytes(b)
		wantTold(t, "the bytes were filled", back, tell(a))
	}
}

func TestDecodedPoisonIsNewMemory(t *testing.T) {
	b := formOf(full(t))
	first, second := mustDecode(t, b), mustDecode(t, b)
	want := tell(second)
	for at := range first.Poison {
		fillArgs(first.Poison[at].Args)
		if !reflect.DeepEqual(plain(first.Poison[at+1:]), noneIsNil(want.poison[at+1:])) {
			t.Fatalf("the Args at %d are shared: %v", at, first.Poison)
		}
	}
	spare := first.Poison[:cap(first.Poison)]
	for at := range spare {
		spare[at] = api.Letter{From: "filled"}
	}
	wantTold(t, "the other one's poison was filled", second, want)
	// Neither does the poison share with the letters that wait.
	first.Poison = plain(want.poison)
	wantTold(t, "its own poison was filled", first, want)
}

// R4: lists of no elements.

func TestNoPoisonIsNilOrEmpty(t *testing.T) {
	want := formOf(mustNew(t, "a"))
	for _, poison := range [][]api.Letter{nil, {}, make([]api.Letter, 0, 9), someLetters(2)[:0]} {
		a := mustNew(t, "a")
		a.Poison = poison
		if !a.Fresh() {
			t.Errorf("%#v isn't fresh", poison)
		}
		wantForm(t, "no poison", a, want)
	}
	for _, args := range [][]int64{nil, {}, make([]int64, 0, 9), []int64{7, 8}[:0]} {
		a := mustNew(t, "a")
		a.Poison = []api.Letter{{Args: args}}
		wantForm(t, "no Args", a, unhex(t, "00 0a 00000000000000000000 01 00 04 01610000 05 0100000000"))
	}
}
