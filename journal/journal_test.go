package journal_test

import (
	"bytes"
	"encoding/hex"
	"math"
	"math/rand"
	"slices"
	"strings"
	"testing"

	"reeve/api"
	"reeve/codec"
	"reeve/journal"
)

// The limits, as DOC.md tells them.
const (
	mostEvents = 16
	registers  = 8
)

// model is what a journal should hold: where it began, the version it had there, and
// all events since, of which the first ones are done to the base.
type model struct {
	begin  [registers]int64
	ahead  uint64
	all    []journal.Event
	folded int
}

// add is what the document asks of Add.
func (m *model) add(list []journal.Event) api.Errno {
	for _, e := range list {
		if e.Register < 0 || e.Register > 7 {
			return api.ErrRange
		}
	}
	m.all = slices.Concat(m.all, list)
	m.folded = max(m.folded, len(m.all)-mostEvents)
	return api.OK
}

// fold is what the document asks of Fold.
func (m *model) fold() int {
	count := len(m.events())
	m.folded = len(m.all)
	return count
}

// events are those that are not done to the base.
func (m *model) events() []journal.Event { return m.all[m.folded:] }

// base is where it began, with the first events done.
func (m *model) base() [registers]int64 { return done(m.begin, m.all[:m.folded]) }

// state is where it began, with all events done.
func (m *model) state() [registers]int64 { return done(m.begin, m.all) }

// version is how many events there ever were.
func (m *model) version() uint64 { return m.ahead + uint64(len(m.all)) }

// done is the registers behind these events: of each the value that was set last.
func done(base [registers]int64, list []journal.Event) [registers]int64 {
	for r := range base {
		for n := len(list) - 1; n >= 0; n-- {
			if list[n].Register == r {
				base[r] = list[n].Value
				break
			}
		}
	}
	return base
}

// form is the bytes of a journal's parts, whether or not a journal may have them.
func form(version uint64, base [registers]int64, list []journal.Event) []byte {
	w := codec.NewWriter()
	w.Number(version)
	for _, n := range base {
		w.Int(n)
	}
	w.Number(uint64(len(list)))
	for _, e := range list {
		w.Number(uint64(e.Register))
		w.Int(e.Value)
	}
	return w.Bytes()
}

// unhex makes bytes of hexadecimal digits with spaces between.
func unhex(t *testing.T, form string) []byte {
	t.Helper()
	b, err := hex.DecodeString(strings.ReplaceAll(form, " ", ""))
	if err != nil {
		t.Fatalf("%q: %v", form, err)
	}
	return b
}

// pair is a journal beside what it should be: each call goes to both.
type pair struct {
	t *testing.T
	j *journal.Journal
	m *model
}

// newPair is a new journal.
func newPair(t *testing.T) pair {
	t.Helper()
	j := journal.New()
	if j == nil {
		t.Fatal("New is nil")
	}
	return pair{t, j, &model{}}
}

// with is a journal to which these were added, one by one.
func with(t *testing.T, list []journal.Event) pair {
	t.Helper()
	p := newPair(t)
	for _, e := range list {
		if errno := p.add("with", e); errno != api.OK {
			t.Fatalf("Add(%v): %v", e, errno)
		}
	}
	return p
}

// add adds, and holds the answer against the model's, which it tells.
func (p pair) add(what string, list ...journal.Event) api.Errno {
	p.t.Helper()
	want := p.m.add(list)
	if e := p.j.Add(list); e != want {
		p.t.Errorf("%s: Add(%v) is %v; not %v", what, list, e, want)
	}
	return want
}

// fold folds, and holds the answer against the model's, which it tells.
func (p pair) fold(what string) int {
	p.t.Helper()
	want := p.m.fold()
	if n := p.j.Fold(); n != want {
		p.t.Errorf("%s: Fold is %d; not %d", what, n, want)
	}
	return want
}

// same holds all that the journal tells against the model.
func (p pair) same(what string) {
	p.t.Helper()
	wantJournal(p.t, what, p.j, p.m.version(), p.m.base(), p.m.events())
	if s := p.j.State(); s != p.m.state() {
		p.t.Errorf("%s: State is %v; not %v", what, s, p.m.state())
	}
}

// wantJournal holds all that a journal tells against the parts it should have.
func wantJournal(t *testing.T, what string, j *journal.Journal, version uint64, base [registers]int64, list []journal.Event) {
	t.Helper()
	if v := j.Version(); v != version {
		t.Errorf("%s: Version is %d; not %d", what, v, version)
	}
	if b := j.Base(); b != base {
		t.Errorf("%s: Base is %v; not %v", what, b, base)
	}
	if l := j.Events(); !slices.Equal(l, list) {
		t.Errorf("%s: Events is %v; not %v", what, l, list)
	}
	if s := j.State(); s != done(base, list) {
		t.Errorf("%s: State is %v; not %v", what, s, done(base, list))
	}
	if b := j.Encode(); !bytes.Equal(b, form(version, base, list)) {
		t.Errorf("%s: Encode is %x; not %x", what, b, form(version, base, list))
	}
}

func mustDecode(t *testing.T, b []byte) *journal.Journal {
	t.Helper()
	j, e := journal.Decode(b)
	if e != api.OK || j == nil {
		t.Fatalf("Decode(%x): %v, %v", b, j, e)
	}
	return j
}

// wantNoJournal holds a Decode against ErrForm, beside which there is no journal.
func wantNoJournal(t *testing.T, why string, b []byte) {
	t.Helper()
	if j, e := journal.Decode(b); e != api.ErrForm || j != nil {
		t.Errorf("%s: Decode(%x) is %v, %v", why, b, j, e)
	}
}

// set is an event.
func set(register int, value int64) journal.Event {
	return journal.Event{Register: register, Value: value}
}

// someEvents are count events, no two of the same value, over all registers.
func someEvents(count int) []journal.Event {
	var list []journal.Event
	for n := range count {
		list = append(list, set(n*n*3%registers, int64(1000*n-500)))
	}
	return list
}

// someBase is registers of eight different values, one of them as small as may be.
var someBase = [registers]int64{math.MinInt64, -300, -1, 0, 1, 124, 1 << 40, math.MaxInt64}

// edges are integers around which their bytes change, and the ends.
var edges = []int64{math.MinInt64, math.MinInt64 + 1, -32769, -256, -125, -124, -2, -1, 0, 1, 2, 123, 124, 127, 128, 255, 256, 32767, 65536, 1 << 32, 1 << 62, math.MaxInt64 - 1, math.MaxInt64}

func TestExamples(t *testing.T) {
	j := journal.New()
	if e := j.Add([]journal.Event{set(0, 5), set(1, 6), set(0, 7)}); e != api.OK || j.State() != [8]int64{7, 6} {
		t.Errorf("%v, %v", e, j.State())
	}
	j = journal.New()
	if e := j.Add(someEvents(17)); e != api.OK {
		t.Error(e)
	}
	wantJournal(t, "seventeen events", j, 17, [8]int64{-500}, someEvents(17)[1:])
}

func TestLimitsAreTheDocuments(t *testing.T) {
	if api.MaxEvents != mostEvents || api.Registers != registers {
		t.Errorf("limits: %d, %d", api.MaxEvents, api.Registers)
	}
}

// P16.1: New and Add.

// wantNew holds a journal, or nil, against one of noughts.
func wantNew(t *testing.T, what string, j *journal.Journal) {
	t.Helper()
	if j.Version() != 0 || j.Base() != [8]int64{} || j.State() != [8]int64{} || len(j.Events()) != 0 || j.Fold() != 0 {
		t.Errorf("%s: %d, %v, %v, %v", what, j.Version(), j.Base(), j.State(), j.Events())
	}
}

func TestNewIsOfNoughts(t *testing.T) {
	p := newPair(t)
	wantNew(t, "new", p.j)
	p.same("new")
}

func TestZeroJournalIsAsNew(t *testing.T) {
	var zero journal.Journal
	wantNew(t, "zero", &zero)
	p := pair{t, &zero, &model{}}
	p.same("zero")
	p.add("zero", someEvents(mostEvents+3)...)
	p.same("zero, filled")
	p.fold("zero, filled")
	p.same("zero, folded")
}

func TestAddOfRegisters(t *testing.T) {
	for _, n := range append(edges, 3, 4, 5, 6, 7, 8, 9, 16, -8, 256+3, 1<<32+3, -1<<63+3) {
		for value := range int64(2) {
			p := newPair(t)
			want := api.ErrRange
			if n >= 0 && n <= 7 {
				want = api.OK
			}
			if e := p.add("one", set(int(n), value)); e != want {
				t.Errorf("register %d: %v", n, e)
			}
			p.same("one")
		}
	}
}

func TestAddOfValues(t *testing.T) {
	for _, n := range edges {
		for r := range registers {
			p := newPair(t)
			if e := p.add("one", set(r, n)); e != api.OK {
				t.Errorf("value %d: %v", n, e)
			}
			want := [registers]int64{}
			want[r] = n
			if p.j.State() != want {
				t.Errorf("State is %v; not %v", p.j.State(), want)
			}
			p.same("one")
			p.fold("one")
			p.same("folded")
		}
	}
}

// TestAWrongListChangesNothing holds one wrong register at each place of lists of all sizes.
func TestAWrongListChangesNothing(t *testing.T) {
	for _, there := range []int{0, 1, mostEvents - 1, mostEvents, mostEvents + 5} {
		p := with(t, someEvents(there))
		for _, size := range []int{1, 2, 3, mostEvents, mostEvents + 1, 3 * mostEvents} {
			for at := range size {
				for _, wrong := range []int{-1, 8} {
					list := someEvents(size)
					list[at].Register = wrong
					if e := p.add("wrong", list...); e != api.ErrRange {
						t.Errorf("%v: %v", list, e)
					}
					p.same("wrong")
				}
			}
		}
		p.add("right again", someEvents(2)...)
		p.same("right again")
	}
}

func TestAddOfNone(t *testing.T) {
	for _, there := range []int{0, 1, mostEvents, mostEvents + 5} {
		p := with(t, someEvents(there))
		for _, list := range [][]journal.Event{nil, {}, someEvents(3)[:0]} {
			if e := p.add("none", list...); e != api.OK {
				t.Error(e)
			}
			p.same("none")
		}
	}
}

// TestAddInOneOrInSeveral holds that all that counts is the events' order.
func TestAddInOneOrInSeveral(t *testing.T) {
	for count := range 4 * mostEvents {
		one := with(t, someEvents(count))
		one.same("one by one")
		for _, first := range []int{0, 1, count / 2, count} {
			p := newPair(t)
			p.add("the first", someEvents(count)[:min(first, count)]...)
			p.add("the others", someEvents(count)[min(first, count):]...)
			p.same("in two")
			if !bytes.Equal(p.j.Encode(), one.j.Encode()) {
				t.Errorf("%d events, first %d: %x; not %x", count, first, p.j.Encode(), one.j.Encode())
			}
		}
	}
}

func TestAtMostSixteen(t *testing.T) {
	p := newPair(t)
	for n, e := range someEvents(5 * mostEvents) {
		p.add("one by one", e)
		p.same("one by one")
		if got := len(p.j.Events()); got != min(n+1, mostEvents) {
			t.Errorf("%d events of %d", got, n+1)
		}
	}
	p.add("more than there may be", someEvents(1000)...)
	p.same("more than there may be")
}

// TestTheFirstAreDoneInOrder holds that of two events of a register the later one stays in the base.
func TestTheFirstAreDoneInOrder(t *testing.T) {
	p := newPair(t)
	p.add("one register", set(3, 1), set(3, 2), set(3, 3))
	for n := range int64(mostEvents + 2) {
		p.add("another register", set(4, n))
		p.same("another register")
	}
	if b := p.j.Base(); b != [8]int64{3: 3, 4: 1} {
		t.Errorf("Base is %v", b)
	}
}

// P16.2: State, Base, Events, Version and Fold.

func TestAskingChangesNothing(t *testing.T) {
	p := with(t, someEvents(mostEvents+3))
	for range 20 {
		p.j.State()
		p.j.Base()
		p.j.Events()
		p.j.Version()
		p.j.Encode()
		p.same("asked")
	}
}

func TestStateIsTheLastValueOfEach(t *testing.T) {
	p := newPair(t)
	for n := range 3 * mostEvents {
		for r := range registers {
			p.add("round", set(r, int64(10*n+r)))
			p.same("round")
			if p.j.State()[r] != int64(10*n+r) {
				t.Errorf("State is %v", p.j.State())
			}
		}
	}
}

// TestAnEventMayChangeNothing holds that it is an event even if the register has that value.
func TestAnEventMayChangeNothing(t *testing.T) {
	p := newPair(t)
	for range mostEvents + 2 {
		p.add("nought again", set(5, 0))
		p.same("nought again")
	}
	if p.j.Version() != mostEvents+2 || len(p.j.Events()) != mostEvents {
		t.Errorf("%d, %v", p.j.Version(), p.j.Events())
	}
}

func TestFoldDoesAllToTheBase(t *testing.T) {
	for count := range 3 * mostEvents {
		p := with(t, someEvents(count))
		state, version := p.j.State(), p.j.Version()
		if n := p.fold("folded"); n != min(count, mostEvents) {
			t.Errorf("Fold is %d of %d", n, count)
		}
		p.same("folded")
		if p.j.State() != state || p.j.Version() != version || p.j.Base() != state || len(p.j.Events()) != 0 {
			t.Errorf("%v, %d, %v, %v", p.j.State(), p.j.Version(), p.j.Base(), p.j.Events())
		}
		if n := p.fold("twice"); n != 0 {
			t.Errorf("Fold again is %d", n)
		}
		p.same("twice")
		p.add("behind it", someEvents(5)...)
		p.same("behind it")
		if len(p.j.Events()) != 5 {
			t.Errorf("Events is %v", p.j.Events())
		}
	}
}

func TestAgainstAModel(t *testing.T) {
	r := rand.New(rand.NewSource(61))
	for _, longest := range []int{1, 3, mostEvents, 3 * mostEvents} {
		p := newPair(t)
		for n := range 1500 {
			switch r.Intn(12) {
			case 0:
				p.fold("any")
			case 1:
				p.j = mustDecode(t, p.j.Encode())
			default:
				var list []journal.Event
				for range r.Intn(longest + 1) {
					list = append(list, set(r.Intn(registers), int64(r.Uint64())>>r.Intn(64)))
				}
				if len(list) > 0 && n%9 == 0 {
					list[r.Intn(len(list))].Register = registers + r.Intn(3)
				}
				p.add("any", list...)
			}
			// The model keeps all events, so it begins anew now and then.
			if n%100 == 0 {
				p.m.begin, p.m.ahead = p.m.base(), p.m.version()-uint64(len(p.m.events()))
				p.m.all, p.m.folded = slices.Clone(p.m.events()), 0
			}
			p.same("any")
			if t.Failed() {
				t.Fatalf("at most %d, call %d", longest, n)
			}
		}
	}
}

// P16.3: as bytes.

// forms holds a journal's parts beside its bytes.
var forms = []struct {
	version uint64
	base    [registers]int64
	list    []journal.Event
	form    string
}{
	{0, [8]int64{}, nil, "00 0000000000000000 00"},
	{1, [8]int64{}, []journal.Event{set(0, 5)}, "01 0000000000000000 01 00 0a"},
	{3, [8]int64{}, []journal.Event{set(0, 5), set(1, 6), set(0, 7)}, "03 0000000000000000 03 00 0a 01 0c 00 0e"},
	{9, [8]int64{1, -1, 2, -2, 3, -3, 4, -4}, []journal.Event{set(7, -1)}, "09 0201040306050807 01 07 01"},
	{300, [8]int64{0, 124, -124, math.MaxInt64, math.MinInt64}, []journal.Event{set(6, math.MaxInt64), set(5, math.MinInt64)},
		"f9012c 00 f8f8 f7 fffffffffffffffffe ffffffffffffffffff 000000 02 06 fffffffffffffffffe 05 ffffffffffffffffff"},
	{math.MaxUint64, [8]int64{7: 1}, nil, "ffffffffffffffffff 0000000000000002 00"},
	// Bases that no events could have come to: there are not more events than lie behind it.
	{0, [8]int64{5}, nil, "00 0a00000000000000 00"},
	{1, [8]int64{5, 6}, []journal.Event{set(0, 1)}, "01 0a0c000000000000 01 00 02"},
	{2, [8]int64{1, 1, 1, 1, 1, 1, 1, 1}, []journal.Event{set(0, 1)}, "02 0202020202020202 01 00 02"},
}

func TestEncodeIsTheForm(t *testing.T) {
	for _, x := range forms[:3] {
		if b := with(t, x.list).j.Encode(); !bytes.Equal(b, unhex(t, x.form)) {
			t.Errorf("Encode of %v is %x; not %s", x.list, b, x.form)
		}
	}
	p := newPair(t)
	for r, n := range []int64{1, -1, 2, -2, 3, -3, 4, -4} {
		p.add("the base", set(r, n))
	}
	p.fold("the base")
	p.add("the last", set(7, -1))
	if b := p.j.Encode(); !bytes.Equal(b, unhex(t, forms[3].form)) {
		t.Errorf("Encode is %x; not %s", b, forms[3].form)
	}
}

// TestEncodeTellsTheStateAlone holds that two ways to the same journal have the same bytes.
func TestEncodeTellsTheStateAlone(t *testing.T) {
	long := with(t, []journal.Event{set(0, 1), set(1, 5), set(0, 2)})
	long.fold("long")
	long.add("long", set(3, 3))
	short := with(t, []journal.Event{set(1, 5), set(0, 3), set(0, 2)})
	short.fold("short")
	short.add("short", set(3, 3))
	if !bytes.Equal(long.j.Encode(), short.j.Encode()) {
		t.Errorf("%x and %x", long.j.Encode(), short.j.Encode())
	}
}

func TestDecodeIsThatJournal(t *testing.T) {
	for _, x := range forms {
		wantJournal(t, "a form", mustDecode(t, unhex(t, x.form)), x.version, x.base, x.list)
	}
	for count := range mostEvents + 1 {
		for _, version := range []uint64{uint64(count), uint64(count) + 1, 247, 248, 1 << 32, 1 << 63, math.MaxUint64} {
			list := someEvents(count)
			wantJournal(t, "some", mustDecode(t, form(version, someBase, list)), version, someBase, list)
		}
	}
}

func TestADecodedJournalGoesOn(t *testing.T) {
	for _, count := range []int{0, 1, 2, mostEvents - 1, mostEvents} {
		for _, version := range []uint64{uint64(count), 1000, 1 << 63} {
			p := pair{t, mustDecode(t, form(version, someBase, someEvents(count))), &model{begin: someBase, ahead: version - uint64(count), all: someEvents(count)}}
			p.same("decoded")
			p.add("wrong", set(8, 0))
			p.add("decoded", set(2, 7), set(2, 8))
			p.same("decoded")
			p.fold("decoded")
			p.same("folded")
			p.add("more", someEvents(mostEvents+1)...)
			p.same("more")
		}
	}
}

// TestVersionAtItsEnd holds that a version for which there is no next number stays the
// last one, so that the journal's bytes are still a journal's.
func TestVersionAtItsEnd(t *testing.T) {
	for left := range uint64(4) {
		j := mustDecode(t, form(math.MaxUint64-left, someBase, someEvents(2)))
		for n := range uint64(2*mostEvents + 3) {
			wantJournal(t, "its own bytes", mustDecode(t, j.Encode()), j.Version(), j.Base(), j.Events())
			if want := math.MaxUint64 - left + min(left, n); j.Version() != want {
				t.Errorf("Version is %d; not %d", j.Version(), want)
			}
			if e := j.Add([]journal.Event{set(int(n)%registers, int64(n))}); e != api.OK || j.State()[n%registers] != int64(n) {
				t.Errorf("Add is %v; State is %v", e, j.State())
			}
		}
		if e := j.Add(someEvents(5)); e != api.OK || j.Version() != math.MaxUint64 {
			t.Errorf("Add of five is %v; Version is %d", e, j.Version())
		}
	}
	j := mustDecode(t, form(math.MaxUint64-2, someBase, nil))
	if e := j.Add(someEvents(5)); e != api.OK || j.Version() != math.MaxUint64 {
		t.Errorf("Add of five is %v; Version is %d", e, j.Version())
	}
}

func TestDecodeOfMoreEventsThanMayBe(t *testing.T) {
	for _, count := range []int{mostEvents + 1, mostEvents + 2, 2 * mostEvents, 247, 248, 256, 256 + mostEvents, 65536 + 1} {
		for _, version := range []uint64{uint64(count), uint64(count) + 1, math.MaxUint64} {
			wantNoJournal(t, "too many events", form(version, someBase, someEvents(count)))
		}
	}
}

func TestDecodeOfMoreEventsThanTheVersionSays(t *testing.T) {
	for count := range mostEvents + 1 {
		for version := range uint64(count) {
			wantNoJournal(t, "more than the version says", form(version, someBase, someEvents(count)))
		}
	}
}

func TestDecodeOfRegisters(t *testing.T) {
	for _, n := range []uint64{0, 7, 8, 9, 15, 247, 248, 256, 256 + 3, 1 << 32, 1<<32 + 3, 1 << 63, 1<<63 + 3, math.MaxUint64 - 3, math.MaxUint64} {
		for _, count := range []int{1, 2, mostEvents} {
			for at := range count {
				w := codec.NewWriter()
				w.Number(mostEvents)
				for _, value := range someBase {
					w.Int(value)
				}
				w.Number(uint64(count))
				list := someEvents(count)
				for i, e := range list {
					register := uint64(e.Register)
					if i == at {
						register, list[at].Register = n, int(n)
					}
					w.Number(register)
					w.Int(e.Value)
				}
				if n > 7 {
					wantNoJournal(t, "no such register", w.Bytes())
					continue
				}
				wantJournal(t, "a register", mustDecode(t, w.Bytes()), mostEvents, someBase, list)
			}
		}
	}
}

func TestDecodeOfOtherBytes(t *testing.T) {
	wantNoJournal(t, "nil", nil)
	others := []struct {
		why  string
		form string
	}{
		{"nothing", ""},
		{"the version alone", "01"},
		{"the version is no number", "f800 0000000000000000 00"},
		{"the version has a second form", "f801 0000000000000000 00"},
		{"seven registers", "00 00000000000000 00"},
		{"seven registers, and one event", "01 00000000000000 01 00 0a"},
		{"nine registers", "00 000000000000000000 00"},
		{"a register has a second form", "00 00000000 f805 000000 00"},
		{"the last register ends too early", "00 00000000000000 f9ff"},
		{"no count", "00 0000000000000000"},
		{"the count has a second form", "01 0000000000000000 f801 00 0a"},
		{"none, and a byte behind", "00 0000000000000000 00 00"},
		{"none, and one behind", "01 0000000000000000 00 00 0a"},
		{"one, and nothing behind", "01 0000000000000000 01"},
		{"one without a value", "01 0000000000000000 01 00"},
		{"one, and a byte behind", "01 0000000000000000 01 00 0a 00"},
		{"one, and two are there", "02 0000000000000000 01 00 0a 00 0a"},
		{"two, and one is there", "02 0000000000000000 02 00 0a"},
		{"one more than the version says", "00 0000000000000000 01 00 00"},
		{"16 are said, one is there", "10 0000000000000000 10 00 0a"},
		{"2^64 - 1 are said, one is there", "ffffffffffffffffff 0000000000000000 ffffffffffffffffff 00 0a"},
		{"2^64 - 1 are said, none is there", "ffffffffffffffffff 0000000000000000 ffffffffffffffffff"},
		{"2^32 + 1 are said", "ffffffffffffffffff 0000000000000000 fc0100000001 00 0a"},
		{"2^63 are said", "ffffffffffffffffff 0000000000000000 ff8000000000000000"},
		{"the register has a second form", "01 0000000000000000 01 f800 0a"},
		{"register 8", "01 0000000000000000 01 08 0a"},
		{"the value has a second form", "01 0000000000000000 01 00 f80a"},
		{"the value ends too early", "01 0000000000000000 01 00 f9ff"},
	}
	for _, x := range others {
		wantNoJournal(t, x.why, unhex(t, x.form))
	}
}

func TestDecodeOfLessOrMore(t *testing.T) {
	for _, count := range []int{0, 1, mostEvents} {
		b := form(mostEvents, someBase, someEvents(count))
		for size := range b {
			wantNoJournal(t, "a beginning", b[:size])
		}
		for _, more := range []byte{0, 1, 0xf7, 0xf8, 0xff} {
			wantNoJournal(t, "a byte behind", append(slices.Clone(b), more))
		}
	}
}

// wantDecode holds a Decode against the parts that the bytes tell, and tells whether a
// journal has such: bytes are a journal's, if the form of what they tell is just these.
func wantDecode(t *testing.T, b []byte) bool {
	t.Helper()
	in := codec.NewReader(b)
	version := in.Number()
	base := [registers]int64{}
	for r := range base {
		base[r] = in.Int()
	}
	var list []journal.Event
	good := true
	for n := in.Number(); n > 0 && !in.Bad(); n-- {
		list = append(list, set(int(in.Number()), in.Int()))
		good = good && list[len(list)-1].Register >= 0 && list[len(list)-1].Register < registers
	}
	good = good && in.End() && len(list) <= mostEvents && uint64(len(list)) <= version
	if !good {
		wantNoJournal(t, "no journal's", b)
		return false
	}
	wantJournal(t, "a journal's", mustDecode(t, b), version, base, list)
	return true
}

// TestDecodeOfAllSmallParts goes through all versions below 4 with at most three small events.
func TestDecodeOfAllSmallParts(t *testing.T) {
	var some []journal.Event
	for r := range registers + 2 {
		some = append(some, set(r, 0), set(r, -1))
	}
	good := 0
	var walk func(version uint64, list []journal.Event)
	walk = func(version uint64, list []journal.Event) {
		if wantDecode(t, form(version, someBase, list)) {
			good++
		}
		for n := 0; n < len(some) && len(list) < 3 && !t.Failed(); n++ {
			walk(version, append(list, some[n]))
		}
	}
	for version := range uint64(4) {
		walk(version, nil)
	}
	// Each event is one of eight registers and two values.
	if want := 4 + 3*16 + 2*16*16 + 16*16*16; good != want {
		t.Errorf("%d journals; not %d", good, want)
	}
}

// TestDecodeOfNearlyRightBytes changes one byte, or none, of journals of all kinds.
func TestDecodeOfNearlyRightBytes(t *testing.T) {
	r := rand.New(rand.NewSource(62))
	good := 0
	for range 20000 {
		p := newPair(t)
		for range r.Intn(2 * mostEvents) {
			p.add("any", set(r.Intn(registers), int64(r.Uint64())>>r.Intn(64)))
			if r.Intn(20) == 0 {
				p.fold("any")
			}
		}
		b := p.j.Encode()
		if r.Intn(4) > 0 {
			b[r.Intn(len(b))] ^= byte(1 << r.Intn(8))
		}
		if wantDecode(t, b) {
			good++
		}
		if t.Failed() {
			return
		}
	}
	if good < 5000 || good > 19000 {
		t.Errorf("%d journals", good)
	}
}

func TestDecodeUndoesEncode(t *testing.T) {
	r := rand.New(rand.NewSource(63))
	for range 300 {
		p := newPair(t)
		for range r.Intn(100) {
			p.add("any", set(r.Intn(registers), int64(r.Uint64())>>r.Intn(64)))
			if r.Intn(20) == 0 {
				p.fold("any")
			}
		}
		p.j = mustDecode(t, p.j.Encode())
		p.same("there and back")
	}
}

// R1: nil.

func TestNilJournal(t *testing.T) {
	var none *journal.Journal
	for range 2 {
		wantNew(t, "nil", none)
		for _, list := range [][]journal.Event{nil, {}, someEvents(1), someEvents(17), {set(8, 0)}, {set(-1, 0)}} {
			if e := none.Add(list); e != api.ErrArg {
				t.Errorf("nil: Add(%v) is %v", list, e)
			}
		}
		if b := none.Encode(); len(b) != 0 {
			t.Errorf("nil: Encode is %x", b)
		}
	}
}

// R2: the object's history alone.

func TestEachJournalIsForItself(t *testing.T) {
	a, b := newPair(t), newPair(t)
	a.add("a", set(0, 5))
	b.same("b")
	b.add("b", set(1, 6), set(2, 7))
	a.same("a")
	c, d := mustDecode(t, b.j.Encode()), mustDecode(t, b.j.Encode())
	c.Add(someEvents(mostEvents))
	c.Fold()
	wantJournal(t, "d", d, 2, [8]int64{}, []journal.Event{set(1, 6), set(2, 7)})
	b.same("b")
}

func TestACopyOfAJournalIsForItself(t *testing.T) {
	for _, count := range []int{0, 3, mostEvents - 1, mostEvents, mostEvents + 9} {
		first, second := with(t, someEvents(count)), with(t, someEvents(count))
		j := *first.j
		second.j = &j
		first.add("first", set(1, 1))
		second.same("second")
		second.add("second", set(2, 2))
		first.same("first")
		first.add("first", someEvents(mostEvents)...)
		second.same("second")
		second.fold("second")
		first.same("first")
		first.fold("first")
		second.add("second", set(3, 3))
		first.same("first")
	}
}

func TestAnswersStayTheSame(t *testing.T) {
	p := with(t, someEvents(mostEvents+4))
	for range 3 {
		p.same("again")
		wantJournal(t, "decoded again", mustDecode(t, p.j.Encode()), p.m.version(), p.m.base(), p.m.events())
	}
}

// R3: memory.

// fillBytes overwrites bytes and their spare room.
func fillBytes(b []byte) {
	b = b[:cap(b)]
	for n := range b {
		b[n] = 0xee
	}
}

// fillList overwrites events and their spare room.
func fillList(list []journal.Event) {
	list = list[:cap(list)]
	for n := range list {
		list[n] = set(5, -99)
	}
}

func TestAddLeavesItsListAndKeepsItNot(t *testing.T) {
	for _, size := range []int{0, 1, 3, mostEvents - 1, mostEvents, mostEvents + 1, 3 * mostEvents} {
		for _, there := range []int{0, 1, mostEvents} {
			p := with(t, someEvents(there))
			room := someEvents(size + 3)
			was := slices.Clone(room)
			p.m.add(room[:size])
			if e := p.j.Add(room[:size]); e != api.OK {
				t.Error(e)
			}
			p.j.Add([]journal.Event{set(9, 9)})
			if !slices.Equal(room, was) {
				t.Errorf("changed: %v; not %v", room, was)
			}
			fillList(room[:size])
			p.same("the list was filled")
			p.add("behind it", set(1, 1))
			if room[0] != set(5, -99) {
				t.Errorf("a later call changed %v", room)
			}
			p.same("behind it")
		}
	}
}

func TestEventsAreNewMemory(t *testing.T) {
	for count := range 2 * mostEvents {
		p := with(t, someEvents(count))
		want := slices.Clone(p.m.events())
		kept := p.j.Events()
		fillList(p.j.Events())
		p.same("Events' answer was filled")
		if !slices.Equal(kept, want) {
			t.Errorf("two answers of Events share memory: %v", kept)
		}
		p.add("behind Events", someEvents(3)...)
		p.fold("behind Events")
		p.add("behind Events", someEvents(3)...)
		if !slices.Equal(kept, want) {
			t.Errorf("a call changed what Events told: %v", kept)
		}
		p.same("behind Events")
	}
}

func TestRegistersAreNewMemory(t *testing.T) {
	p := with(t, someEvents(mostEvents+3))
	state, base := p.j.State(), p.j.Base()
	state[3], base[4] = 77, 78
	p.same("answers were changed")
}

func TestEncodeIsNewMemory(t *testing.T) {
	p := with(t, someEvents(mostEvents))
	kept := p.j.Encode()
	fillBytes(p.j.Encode())
	p.same("Encode's answer was filled")
	p.add("behind Encode", set(0, 3))
	if !bytes.Equal(kept, form(mostEvents, [8]int64{}, someEvents(mostEvents))) {
		t.Errorf("two answers of Encode share memory: %x", kept)
	}
}

func TestDecodedBytesStayAsTheyAreAndAreNotKept(t *testing.T) {
	list := someEvents(mostEvents)
	room := append(form(99, someBase, list), 9, 9, 9)
	was := slices.Clone(room)
	b := room[:len(room)-3]
	j := mustDecode(t, b)
	wantNoJournal(t, "more", room)
	if !bytes.Equal(room, was) {
		t.Errorf("changed: %x; not %x", room, was)
	}
	fillBytes(b)
	wantJournal(t, "the bytes were filled", j, 99, someBase, list)
}

// R4: lists of no elements.

func TestNoBytesAreNilOrEmpty(t *testing.T) {
	for _, b := range [][]byte{nil, {}, make([]byte, 0, 9), []byte{1, 2}[:0]} {
		wantNoJournal(t, "no bytes", b)
	}
}
