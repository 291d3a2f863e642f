package remind_test

import (
	"bytes"
	"encoding/hex"
	"math"
	"math/rand"
	"slices"
	"strconv"
	"strings"
	"testing"
	"unsafe"

	"reeve/api"
	"reeve/codec"
	"reeve/remind"
)

// The limits, as DOC.md tells them.
const (
	mostKey    = 40
	mostRemind = 64
)

// id is what tells two reminders apart.
type id struct{ actor, name string }

// model is what a queue should hold, in no order.
type model map[id]remind.Reminder

// set is what the document asks of Set.
func (m model) set(r remind.Reminder) api.Errno {
	_, old := m[id{r.Actor, r.Name}]
	switch {
	case !isKey(r.Actor) || len(r.Name) > mostKey:
		return api.ErrArg
	case r.Due < 0 || r.Period < 1:
		return api.ErrRange
	case !old && len(m) >= mostRemind:
		return api.ErrFull
	}
	m[id{r.Actor, r.Name}] = r
	return api.OK
}

// cancel is what the document asks of Cancel.
func (m model) cancel(actor, name string) bool {
	_, ok := m[id{actor, name}]
	delete(m, id{actor, name})
	return ok
}

// due is what the document asks of Due.
func (m model) due(now int64) (remind.Reminder, bool) {
	all := m.all()
	if len(all) == 0 || all[0].Due > now {
		return remind.Reminder{}, false
	}
	return all[0], true
}

// serve is what the document asks of Serve.
func (m model) serve(now int64) (remind.Reminder, bool) {
	r, ok := m.due(now)
	if !ok {
		return r, false
	}
	next := r
	next.Due += next.Period
	m[id{r.Actor, r.Name}] = next
	// The sum of two that aren't below 0 lies below 0 just when it is too great.
	if next.Due < 0 {
		delete(m, id{r.Actor, r.Name})
	}
	return r, true
}

// all are the reminders in the order, each laid behind those that are ahead of it.
func (m model) all() []remind.Reminder {
	var list []remind.Reminder
	for _, r := range m {
		n := 0
		for n < len(list) && ahead(list[n], r) {
			n++
		}
		list = slices.Insert(list, n, r)
	}
	return list
}

// ahead tells whether a comes ahead of b: by due, then by the actor, then by the name.
func ahead(a, b remind.Reminder) bool {
	if a.Due != b.Due {
		return a.Due < b.Due
	}
	if a.Actor != b.Actor {
		return a.Actor < b.Actor
	}
	return a.Name < b.Name
}

// isKey tells whether a text is a key.
func isKey(s string) bool { return len(s) > 0 && len(s) <= mostKey }

// formOf is the bytes of these reminders, whether or not a queue may hold them.
func formOf(list []remind.Reminder) []byte {
	w := codec.NewWriter()
	w.Number(uint64(len(list)))
	for _, r := range list {
		w.Text(r.Actor)
		w.Text(r.Name)
		w.Int(r.Due)
		w.Int(r.Period)
		w.Int(r.Kind)
	}
	return w.Bytes()
}

// unhex makes bytes of hexadecimal digits with spaces between.
func unhex(t *testing.T, form string) []byte {
	t.Helper()
	b, err := hex.DecodeString(strings.ReplaceAll(form, " ", ""))
	if err != nil {
		t.Fatalf("%q: %v", form, err)
	}
	return b
}

// pair is a queue beside what it should be: each call goes to both.
type pair struct {
	t *testing.T
	q *remind.Queue
	m model
}

// newPair is a new queue.
func newPair(t *testing.T) pair {
	t.Helper()
	q := remind.New()
	if q == nil {
		t.Fatal("New is nil")
	}
	return pair{t, q, model{}}
}

// with is a queue in which these were set, one behind the other.
func with(t *testing.T, list []remind.Reminder) pair {
	t.Helper()
	p := newPair(t)
	for _, r := range list {
		if e := p.set("with", r); e != api.OK {
			t.Fatalf("Set(%v): %v", r, e)
		}
	}
	return p
}

// set sets, and holds the answer against the model's, which it tells.
func (p pair) set(what string, r remind.Reminder) api.Errno {
	p.t.Helper()
	want := p.m.set(r)
	if e := p.q.Set(r); e != want {
		p.t.Errorf("%s: Set(%v) is %v; not %v", what, r, e, want)
	}
	return want
}

// cancel cancels, and holds the answer against the model's, which it tells.
func (p pair) cancel(what, actor, name string) bool {
	p.t.Helper()
	want := p.m.cancel(actor, name)
	if ok := p.q.Cancel(actor, name); ok != want {
		p.t.Errorf("%s: Cancel(%q, %q) is %v", what, actor, name, ok)
	}
	return want
}

// due asks Due, and holds the answer against the model's.
func (p pair) due(what string, now int64) {
	p.t.Helper()
	want, wantOK := p.m.due(now)
	if r, ok := p.q.Due(now); ok != wantOK || r != want {
		p.t.Errorf("%s: Due(%d) is %v, %v; not %v, %v", what, now, r, ok, want, wantOK)
	}
}

// serve serves, and holds the answer against the model's, which it tells.
func (p pair) serve(what string, now int64) (remind.Reminder, bool) {
	p.t.Helper()
	want, wantOK := p.m.serve(now)
	if r, ok := p.q.Serve(now); ok != wantOK || r != want {
		p.t.Errorf("%s: Serve(%d) is %v, %v; not %v, %v", what, now, r, ok, want, wantOK)
	}
	return want, wantOK
}

// same holds all that the queue tells against the model.
func (p pair) same(what string) {
	p.t.Helper()
	wantQueue(p.t, what, p.q, p.m.all())
}

// wantQueue holds all that a queue tells against the reminders it should hold.
func wantQueue(t *testing.T, what string, q *remind.Queue, want []remind.Reminder) {
	t.Helper()
	if all := q.All(); !slices.Equal(all, want) {
		t.Errorf("%s: All is %v; not %v", what, all, want)
	}
	if b := q.Encode(); !bytes.Equal(b, formOf(want)) {
		t.Errorf("%s: Encode is %x; not %x", what, b, formOf(want))
	}
	first, ok := remind.Reminder{}, len(want) > 0
	if ok {
		first = want[0]
	}
	if r, is := q.Due(math.MaxInt64); is != ok || r != first {
		t.Errorf("%s: Due is %v, %v; of %v", what, r, is, want)
	}
}

func mustDecode(t *testing.T, b []byte) *remind.Queue {
	t.Helper()
	q, e := remind.Decode(b)
	if e != api.OK || q == nil {
		t.Fatalf("Decode(%x): %v, %v", b, q, e)
	}
	return q
}

// wantNoQueue holds a Decode against ErrForm, beside which there is no queue.
func wantNoQueue(t *testing.T, why string, b []byte) {
	t.Helper()
	if q, e := remind.Decode(b); e != api.ErrForm || q != nil {
		t.Errorf("%s: Decode(%x) is %v, %v", why, b, q, e)
	}
}

// at is a reminder of that actor and name, with any period and kind.
func at(actor, name string, due int64) remind.Reminder {
	return remind.Reminder{Actor: actor, Name: name, Due: due, Period: 7, Kind: -3}
}

// someReminders are count reminders, in the order, two of them due at each tick.
func someReminders(count int) []remind.Reminder {
	var list []remind.Reminder
	for n := range count {
		r := remind.Reminder{Actor: "a" + strconv.Itoa(n/4%2), Name: "n" + strconv.Itoa(1000+n), Due: int64(n / 2 * 300), Period: int64(n*n + 1), Kind: int64(n) - 9}
		list = append(list, r)
	}
	slices.SortFunc(list, func(a, b remind.Reminder) int {
		if ahead(a, b) {
			return -1
		}
		return 1
	})
	return list
}

func TestExamples(t *testing.T) {
	q := remind.New()
	if e := q.Set(remind.Reminder{Actor: "a", Name: "x", Due: 5, Period: 10}); e != api.OK {
		t.Error(e)
	}
	for _, x := range []struct {
		now, due int64
		ok       bool
	}{{4, 0, false}, {5, 5, true}, {14, 0, false}, {99, 15, true}} {
		want := remind.Reminder{}
		if x.ok {
			want = remind.Reminder{Actor: "a", Name: "x", Due: x.due, Period: 10}
		}
		if r, ok := q.Serve(x.now); ok != x.ok || r != want {
			t.Errorf("Serve(%d) is %v, %v; not %v", x.now, r, ok, want)
		}
	}
}

func TestLimitsAreTheDocuments(t *testing.T) {
	if api.MaxKey != mostKey || api.MaxRemind != mostRemind {
		t.Errorf("limits: %d, %d", api.MaxKey, api.MaxRemind)
	}
}

// P15.1: New, Set and Cancel.

// wantNone holds a queue, or nil, against one without reminders.
func wantNone(t *testing.T, what string, q *remind.Queue) {
	t.Helper()
	for _, now := range edges {
		if r, ok := q.Due(now); ok || r != (remind.Reminder{}) {
			t.Errorf("%s: Due(%d) is %v, %v", what, now, r, ok)
		}
		if r, ok := q.Serve(now); ok || r != (remind.Reminder{}) {
			t.Errorf("%s: Serve(%d) is %v, %v", what, now, r, ok)
		}
	}
	for _, s := range texts() {
		if q.Cancel(s, s) || q.Cancel("a", s) || q.Cancel(s, "x") {
			t.Errorf("%s: Cancel of %q", what, s)
		}
	}
	if all := q.All(); len(all) != 0 {
		t.Errorf("%s: All is %v", what, all)
	}
}

// edges are integers around which their bytes change, and the ends.
var edges = []int64{math.MinInt64, math.MinInt64 + 1, -32769, -256, -124, -2, -1, 0, 1, 2, 123, 124, 127, 128, 255, 256, 32767, 65536, 1 << 32, 1 << 62, math.MaxInt64 - 1, math.MaxInt64}

// texts are keys and such as are none.
func texts() []string {
	list := []string{"\x00", "\xff", "\x00\xff", "é", strings.Repeat("é", 20), strings.Repeat("é", 21), " ", "\n", "a\x00"}
	for size := range 2*mostKey + 1 {
		list = append(list, strings.Repeat("k", size))
	}
	return append(list, strings.Repeat("k", 256+1), strings.Repeat("k", 65536+mostKey))
}

func TestNewIsWithoutReminders(t *testing.T) {
	p := newPair(t)
	wantNone(t, "new", p.q)
	p.same("new")
}

func TestZeroQueueIsAsNew(t *testing.T) {
	var zero remind.Queue
	wantNone(t, "zero", &zero)
	p := pair{t, &zero, model{}}
	p.same("zero")
	for _, r := range someReminders(mostRemind + 1) {
		p.set("zero", r)
	}
	p.same("zero, filled")
	for range 100 {
		p.serve("zero, filled", 20000)
	}
	p.same("zero, served")
}

func TestSetOfTexts(t *testing.T) {
	for _, s := range texts() {
		p := newPair(t)
		want := api.OK
		if !isKey(s) {
			want = api.ErrArg
		}
		if e := p.set("the actor", at(s, "x", 5)); e != want {
			t.Errorf("actor %q: %v", s, e)
		}
		want = api.OK
		if len(s) > mostKey {
			want = api.ErrArg
		}
		if e := p.set("the name", at("b", s, 5)); e != want {
			t.Errorf("name %q: %v", s, e)
		}
		p.same("texts")
	}
}

func TestSetOfIntegers(t *testing.T) {
	for _, n := range edges {
		p := newPair(t)
		want := api.OK
		if n < 0 {
			want = api.ErrRange
		}
		if e := p.set("due", remind.Reminder{Actor: "a", Name: "due", Due: n, Period: 1}); e != want {
			t.Errorf("due %d: %v", n, e)
		}
		want = api.OK
		if n < 1 {
			want = api.ErrRange
		}
		if e := p.set("period", remind.Reminder{Actor: "a", Name: "period", Period: n}); e != want {
			t.Errorf("period %d: %v", n, e)
		}
		if e := p.set("kind", remind.Reminder{Actor: "a", Name: "kind", Period: 1, Kind: n}); e != api.OK {
			t.Errorf("kind %d: %v", n, e)
		}
		p.same("integers")
	}
}

// full is a queue with as many reminders as there may be.
func full(t *testing.T) pair {
	t.Helper()
	return with(t, someReminders(mostRemind))
}

func TestAtMostSixtyFour(t *testing.T) {
	p := newPair(t)
	for n, r := range someReminders(mostRemind) {
		if e := p.set("below the limit", r); e != api.OK {
			t.Errorf("reminder %d: %v", n, e)
		}
	}
	others := []remind.Reminder{at("b", "n1000", 0), at("a0", "", 0), at("a0", "other", 5), at("a1", "n1000", 5), at("a", "n1000", 5)}
	for range 3 {
		for _, r := range others {
			if e := p.set("full", r); e != api.ErrFull {
				t.Errorf("full: Set(%v) is %v", r, e)
			}
			p.same("full")
		}
	}
	if !p.cancel("full", "a0", "n1000") {
		t.Error("Cancel of one that is there")
	}
	if e := p.set("room for one", others[0]); e != api.OK {
		t.Errorf("room for one: %v", e)
	}
	if e := p.set("and for no more", others[1]); e != api.ErrFull {
		t.Errorf("no room: %v", e)
	}
	p.same("full again")
}

// TestAFullQueueTakesOneInPlace holds that one of the same actor and name needs no room.
func TestAFullQueueTakesOneInPlace(t *testing.T) {
	for _, r := range someReminders(mostRemind) {
		for _, due := range []int64{0, r.Due, 5000, math.MaxInt64} {
			p := full(t)
			if e := p.set("in place", at(r.Actor, r.Name, due)); e != api.OK {
				t.Errorf("Set in place of %v: %v", r, e)
			}
			p.same("in place")
		}
	}
}

func TestAServedOneThatIsGoneLeavesRoom(t *testing.T) {
	p := full(t)
	p.set("in place", remind.Reminder{Actor: "a0", Name: "n1000", Due: 0, Period: math.MaxInt64})
	p.serve("to the last tick", 0)
	if e := p.set("it is still there", at("b", "x", 0)); e != api.ErrFull {
		t.Errorf("it is still there: %v", e)
	}
	p.set("in place", remind.Reminder{Actor: "a0", Name: "n1000", Due: 1, Period: math.MaxInt64})
	p.serve("another", 0)
	p.serve("behind the last tick", 1)
	if e := p.set("it is gone", at("b", "x", 0)); e != api.OK {
		t.Errorf("it is gone: %v", e)
	}
	p.same("it is gone")
}

func TestSetInPlace(t *testing.T) {
	p := with(t, []remind.Reminder{at("a", "x", 5), at("a", "y", 6), at("b", "x", 7)})
	for _, r := range []remind.Reminder{
		{Actor: "a", Name: "x", Due: 9, Period: 1, Kind: 2},
		{Actor: "a", Name: "x", Due: 9, Period: 4, Kind: 2},
		{Actor: "a", Name: "x", Due: 9, Period: 4, Kind: 8},
		{Actor: "a", Name: "x", Due: 0, Period: 4, Kind: 8},
		{Actor: "b", Name: "x", Due: 6, Period: 4, Kind: 8},
	} {
		if e := p.set("in place", r); e != api.OK {
			t.Errorf("Set(%v): %v", r, e)
		}
		p.same("in place")
		if len(p.q.All()) != 3 {
			t.Errorf("%d reminders", len(p.q.All()))
		}
	}
}

// TestTextsAreNotJoined holds that the actor and the name are asked each for itself.
func TestTextsAreNotJoined(t *testing.T) {
	list := []remind.Reminder{at("a", "bc", 1), at("ab", "c", 1), at("abc", "", 1), at("a", "", 1), at("a", "b", 1), at("ab", "", 1), at("b", "a", 1), at("a\x00", "b", 1), at("a", "\x00b", 1)}
	p := with(t, list)
	if len(p.q.All()) != len(list) {
		t.Errorf("All is %v", p.q.All())
	}
	p.same("apart")
	for _, r := range list {
		if !p.cancel("apart", r.Actor, r.Name) {
			t.Errorf("Cancel(%q, %q)", r.Actor, r.Name)
		}
		p.same("apart")
	}
}

// TestTheFirstErrorIsTold holds the order of Set's questions, in a full queue too.
func TestTheFirstErrorIsTold(t *testing.T) {
	long := strings.Repeat("k", mostKey+1)
	wrong := []struct {
		r    remind.Reminder
		want api.Errno
	}{
		{remind.Reminder{}, api.ErrArg},
		{remind.Reminder{Due: -1, Period: 1}, api.ErrArg},
		{remind.Reminder{Actor: long, Due: -1}, api.ErrArg},
		{remind.Reminder{Actor: "a", Name: long, Period: 1}, api.ErrArg},
		{remind.Reminder{Actor: "a", Name: long, Due: -1}, api.ErrArg},
		{remind.Reminder{Actor: "a0", Name: "n1000"}, api.ErrRange},
		{remind.Reminder{Actor: "a0", Name: "n1000", Due: -1, Period: 1}, api.ErrRange},
		{remind.Reminder{Actor: "a0", Name: "n1000", Due: -1}, api.ErrRange},
		{remind.Reminder{Actor: "b", Name: "new"}, api.ErrRange},
		{remind.Reminder{Actor: "b", Name: "new", Due: -1, Period: 1}, api.ErrRange},
		{remind.Reminder{Actor: "b", Name: "new", Due: math.MinInt64, Period: math.MinInt64}, api.ErrRange},
	}
	for _, p := range []pair{newPair(t), with(t, someReminders(3)), full(t)} {
		for _, x := range wrong {
			if e := p.set("wrong", x.r); e != x.want {
				t.Errorf("Set(%v) is %v; not %v", x.r, e, x.want)
			}
			p.same("wrong")
		}
	}
}

func TestCancelTakesThatOneAway(t *testing.T) {
	for _, r := range someReminders(mostRemind) {
		p := full(t)
		if !p.cancel("there", r.Actor, r.Name) {
			t.Errorf("Cancel of %v", r)
		}
		p.same("cancelled")
		if p.cancel("gone", r.Actor, r.Name) {
			t.Errorf("Cancel of %v again", r)
		}
		p.same("cancelled twice")
	}
}

func TestCancelOfNone(t *testing.T) {
	p := with(t, []remind.Reminder{at("a", "x", 5), at("b", "", 5)})
	for _, s := range append(texts(), "a", "x", "b", "y") {
		for _, name := range []string{"y", "X", "xx", "x\x00", "b", s + "y"} {
			p.cancel("none", s, name)
		}
	}
	p.cancel("none", "a", "")
	p.cancel("none", "x", "a")
	p.cancel("none", "", "")
	p.cancel("none", "", "x")
	if len(p.q.All()) != 2 {
		t.Errorf("All is %v", p.q.All())
	}
	p.same("none")
}

func TestACancelledOneIsSetAgain(t *testing.T) {
	p := newPair(t)
	for n := range int64(200) {
		p.set("again", at("a", "x", n))
		p.same("again")
		p.cancel("again", "a", "x")
		p.same("cancelled")
	}
}

// P15.2: Due, Serve and All.

func TestDueIsNotAboveNow(t *testing.T) {
	for _, due := range edges {
		if due < 0 {
			continue
		}
		for _, now := range edges {
			p := with(t, []remind.Reminder{at("a", "x", due)})
			p.due("due", now)
			p.same("behind Due")
			if _, ok := p.serve("due", now); ok != (due <= now) {
				t.Errorf("Serve(%d) of one due %d: %v", now, due, ok)
			}
			p.same("behind Serve")
		}
	}
}

func TestDueChangesNothing(t *testing.T) {
	p := full(t)
	for range 20 {
		for _, now := range edges {
			p.due("again", now)
		}
	}
	p.same("behind Due")
}

func TestServeIsDueItsPeriodLater(t *testing.T) {
	for _, due := range edges {
		for _, period := range edges {
			if due < 0 || period < 1 {
				continue
			}
			p := newPair(t)
			p.set("one", remind.Reminder{Actor: "a", Name: "x", Due: due, Period: period, Kind: 4})
			r, ok := p.serve("one", math.MaxInt64)
			if !ok || r.Due != due {
				t.Errorf("Serve is %v, %v; not due %d", r, ok, due)
			}
			p.same("served")
			last := due > math.MaxInt64-period
			if all := p.q.All(); len(all) != 1 && !last || len(all) != 0 && last {
				t.Errorf("due %d, period %d: %v is left", due, period, all)
			}
			p.serve("again", math.MaxInt64)
			p.same("served again")
		}
	}
}

// TestServeAtTheLastTick holds the last tick that there is, and the one behind it.
func TestServeAtTheLastTick(t *testing.T) {
	p := newPair(t)
	p.set("one", remind.Reminder{Actor: "a", Name: "x", Due: math.MaxInt64 - 10, Period: 10})
	if r, ok := p.serve("first", math.MaxInt64-10); !ok || r.Due != math.MaxInt64-10 {
		t.Errorf("first: %v, %v", r, ok)
	}
	if _, ok := p.serve("too early", math.MaxInt64-1); ok {
		t.Error("too early")
	}
	if r, ok := p.serve("at the last tick", math.MaxInt64); !ok || r.Due != math.MaxInt64 {
		t.Errorf("at the last tick: %v, %v", r, ok)
	}
	p.same("gone")
	if len(p.q.All()) != 0 {
		t.Errorf("All is %v", p.q.All())
	}
}

// TestServeGoesOnFromTheDueTick holds that no tick between is left out, however late now is.
func TestServeGoesOnFromTheDueTick(t *testing.T) {
	p := newPair(t)
	p.set("one", remind.Reminder{Actor: "a", Name: "x", Due: 3, Period: 10, Kind: -1})
	for n := range int64(100) {
		if r, ok := p.serve("late", 993); !ok || r.Due != 3+10*n {
			t.Fatalf("%v, %v; not due %d", r, ok, 3+10*n)
		}
	}
	if r, ok := p.serve("none is left", 993); ok {
		t.Errorf("%v", r)
	}
	p.same("served")
}

// TestServeInTheOrder holds the order among those that are due at one time.
func TestServeInTheOrder(t *testing.T) {
	rising := []remind.Reminder{
		at("z", "z", 1), at("\x00", "b", 2), at("A", "b", 2), at("a", "", 2), at("a", "\x00", 2), at("a", "Z", 2), at("a", "a", 2),
		at("a", "aa", 2), at("a", "b", 2), at("a", "\xff", 2), at("a\x00", "", 2), at("aa", "", 2), at("b", "a", 2),
		at("é", "a", 2), at("\xff", "", 2), at("a", "a1", 3),
	}
	r := rand.New(rand.NewSource(51))
	for range 100 {
		p := newPair(t)
		for _, n := range r.Perm(len(rising)) {
			p.set("in any order", rising[n])
		}
		if all := p.q.All(); !slices.Equal(all, rising) {
			t.Fatalf("All is %v", all)
		}
		for _, want := range rising {
			p.due("one behind the other", 3)
			if got, ok := p.serve("one behind the other", 3); !ok || got != want {
				t.Fatalf("Serve is %v, %v; not %v", got, ok, want)
			}
		}
		if got, ok := p.serve("none", 3); ok {
			t.Fatalf("Serve is %v", got)
		}
		p.same("served")
	}
}

// TestAServedOneTakesItsPlaceAnew holds that it may be the first again, or the last, or between.
func TestAServedOneTakesItsPlaceAnew(t *testing.T) {
	for period := int64(1); period < 12; period++ {
		p := newPair(t)
		p.set("one", remind.Reminder{Actor: "m", Name: "m", Due: 1, Period: period})
		for n := range int64(5) {
			p.set("others", remind.Reminder{Actor: strconv.Itoa(int(n)), Name: "x", Due: 2 * n, Period: 100})
			p.set("others", remind.Reminder{Actor: "z" + strconv.Itoa(int(n)), Name: "x", Due: 2 * n, Period: 100})
		}
		for now := range int64(12) {
			for range 3 {
				p.serve("a tick", now)
				p.same("a tick")
			}
		}
	}
}

func TestNoneIsServedBehindACancel(t *testing.T) {
	p := with(t, []remind.Reminder{at("a", "x", 5), at("a", "y", 5)})
	p.serve("the first", 5)
	p.cancel("both", "a", "y")
	p.cancel("both", "a", "x")
	if r, ok := p.serve("none", math.MaxInt64); ok {
		t.Errorf("Serve is %v", r)
	}
	p.same("none")
}

func TestAgainstAModel(t *testing.T) {
	r := rand.New(rand.NewSource(52))
	for _, ids := range []int{1, 3, mostRemind - 1, mostRemind, mostRemind + 1, 2 * mostRemind} {
		for _, greatest := range []int64{4, 100, math.MaxInt64} {
			p := newPair(t)
			// They are of all sizes, so that ticks meet, and some would lie behind the last one.
			tick := func() int64 { return r.Int63n(greatest) >> r.Intn(4) }
			for n := range 1500 {
				one := r.Intn(ids)
				actor, name := "a"+strconv.Itoa(one%7), strconv.Itoa(one/7)
				switch {
				case r.Intn(10) < 3+3*(n/200%2):
					p.set("any", remind.Reminder{Actor: actor, Name: name, Due: tick() - 1, Period: tick(), Kind: tick() - tick()})
				case r.Intn(2) == 0:
					p.cancel("any", actor, name)
				default:
					now := tick()
					p.due("any", now)
					p.serve("any", now)
				}
				if r.Intn(10) == 0 {
					p.same("any")
				}
				if t.Failed() {
					t.Fatalf("%d ids, up to %d", ids, greatest)
				}
			}
			p.same("any")
		}
	}
}

// P15.3: as bytes.

// forms holds what should be in a queue beside its bytes.
var forms = []struct {
	list []remind.Reminder
	form string
}{
	{nil, "00"},
	{[]remind.Reminder{{Actor: "a", Name: "x", Due: 5, Period: 10}}, "01 0161 0178 0a 14 00"},
	{[]remind.Reminder{{Actor: "a", Due: 0, Period: 1, Kind: -1}}, "01 0161 00 00 02 01"},
	{[]remind.Reminder{{Actor: "b", Name: "aa", Due: 1, Period: 3, Kind: 2}, {Actor: "a", Name: "x", Due: 2, Period: 1, Kind: -2}},
		"02 0162 026161 02 06 04 0161 0178 04 02 03"},
	{[]remind.Reminder{{Actor: "a", Name: "\xff\x00", Due: 300, Period: math.MaxInt64, Kind: math.MinInt64}},
		"01 0161 02ff00 f90258 fffffffffffffffffe ffffffffffffffffff"},
	{[]remind.Reminder{{Actor: "a", Name: "x", Due: math.MaxInt64, Period: 124, Kind: math.MaxInt64}},
		"01 0161 0178 fffffffffffffffffe f8f8 fffffffffffffffffe"},
}

func TestEncodeIsTheFormOfAll(t *testing.T) {
	for _, x := range forms {
		if b := with(t, x.list).q.Encode(); !bytes.Equal(b, unhex(t, x.form)) {
			t.Errorf("Encode of %v is %x; not %s", x.list, b, x.form)
		}
	}
}

// TestEncodeTellsTheStateAlone holds that two ways to the same state have the same bytes.
func TestEncodeTellsTheStateAlone(t *testing.T) {
	long := with(t, []remind.Reminder{at("b", "y", 9), at("a", "x", 1), at("c", "z", 3), at("b", "y", 2)})
	long.serve("long", 1)
	long.cancel("long", "c", "z")
	short := with(t, []remind.Reminder{at("a", "x", 8), at("b", "y", 2)})
	if !bytes.Equal(long.q.Encode(), short.q.Encode()) {
		t.Errorf("%x and %x", long.q.Encode(), short.q.Encode())
	}
}

func TestDecodeIsThatQueue(t *testing.T) {
	for _, x := range forms {
		wantQueue(t, "a form", mustDecode(t, unhex(t, x.form)), x.list)
	}
	for count := range mostRemind + 1 {
		list := someReminders(count)
		wantQueue(t, "some", mustDecode(t, formOf(list)), list)
	}
}

func TestADecodedQueueGoesOn(t *testing.T) {
	for _, count := range []int{0, 1, 2, mostRemind - 1, mostRemind} {
		p := with(t, someReminders(count))
		p.q = mustDecode(t, p.q.Encode())
		p.set("decoded", at("new", "", 50))
		p.set("decoded", at("newer", "", 50))
		for now := range int64(100) {
			p.due("decoded", 100*now)
			p.serve("decoded", 100*now)
		}
		p.same("decoded")
		p.cancel("decoded", "new", "")
		p.cancel("decoded", "a0", "n1001")
		p.same("decoded")
	}
}

func TestDecodeAtTheLimits(t *testing.T) {
	long := strings.Repeat("k", mostKey-2)
	var list []remind.Reminder
	for n := range mostRemind {
		s := long + strconv.Itoa(10+n)
		list = append(list, remind.Reminder{Actor: s, Name: s, Due: math.MaxInt64, Period: math.MaxInt64, Kind: math.MinInt64})
	}
	wantQueue(t, "at the limits", mustDecode(t, formOf(list)), list)
	for n := range list {
		list[n].Actor = list[0].Actor
	}
	wantQueue(t, "all of one actor", mustDecode(t, formOf(list)), list)
	for n := range list {
		list[n] = remind.Reminder{Actor: "a" + strconv.Itoa(10+n), Period: 1}
	}
	wantQueue(t, "all as small as may be", mustDecode(t, formOf(list)), list)
}

func TestDecodeOfMoreThanMayBe(t *testing.T) {
	for _, count := range []int{mostRemind + 1, mostRemind + 2, 2 * mostRemind, 247, 248, 256, 256 + mostRemind, 65536 + 1} {
		if q, e := remind.Decode(formOf(someReminders(count))); e != api.ErrForm || q != nil {
			t.Errorf("Decode of %d reminders is %v, %v", count, q, e)
		}
	}
}

func TestDecodeOfPartsThatNoQueueHas(t *testing.T) {
	long := strings.Repeat("k", mostKey+1)
	wrong := []struct {
		why  string
		list []remind.Reminder
	}{
		{"no actor", []remind.Reminder{at("", "x", 5)}},
		{"an actor of 41 bytes", []remind.Reminder{at(long, "x", 5)}},
		{"a name of 41 bytes", []remind.Reminder{at("a", long, 5)}},
		{"due below 0", []remind.Reminder{at("a", "x", -1)}},
		{"due at the least integer", []remind.Reminder{at("a", "x", math.MinInt64)}},
		{"period 0", []remind.Reminder{{Actor: "a", Name: "x", Due: 5}}},
		{"period below 0", []remind.Reminder{{Actor: "a", Name: "x", Due: 5, Period: -1}}},
		{"period at the least integer", []remind.Reminder{{Actor: "a", Name: "x", Due: 5, Period: math.MinInt64}}},
		{"all is zero", []remind.Reminder{{}}},
		{"the second is wrong", []remind.Reminder{at("a", "x", 5), {Actor: "b", Name: "x", Due: 5}}},
		{"the first is wrong", []remind.Reminder{at("a", "x", -5), at("a", "x", 5)}},
		{"the later first", []remind.Reminder{at("a", "x", 6), at("a", "y", 5)}},
		{"the greater actor first", []remind.Reminder{at("b", "x", 5), at("a", "y", 5)}},
		{"the longer actor first", []remind.Reminder{at("aa", "x", 5), at("a", "y", 5)}},
		{"the greater name first", []remind.Reminder{at("a", "y", 5), at("a", "x", 5)}},
		{"the longer name first", []remind.Reminder{at("a", "xx", 5), at("a", "x", 5)}},
		{"the last of three first", []remind.Reminder{at("a", "x", 5), at("a", "z", 5), at("a", "y", 5)}},
		{"one twice", []remind.Reminder{at("a", "x", 5), at("a", "x", 5)}},
		{"one twice, at other ticks", []remind.Reminder{at("a", "x", 5), at("a", "x", 6)}},
		{"one twice, one between", []remind.Reminder{at("a", "x", 5), at("a", "y", 5), at("a", "x", 6)}},
		{"one twice, with another period and kind", []remind.Reminder{at("a", "x", 5), {Actor: "a", Name: "x", Due: 5, Period: 1}}},
	}
	for _, x := range wrong {
		wantNoQueue(t, x.why, formOf(x.list))
	}
	for first := range mostRemind {
		for second := range first {
			list := someReminders(mostRemind)
			list[first], list[second] = list[second], list[first]
			wantNoQueue(t, "two are changed", formOf(list))
			list = someReminders(mostRemind)
			list[first].Actor, list[first].Name, list[first].Due = list[second].Actor, list[second].Name, 1e6+int64(first)
			wantNoQueue(t, "one is twice", formOf(list))
		}
	}
}

func TestDecodeOfOtherBytes(t *testing.T) {
	wantNoQueue(t, "nil", nil)
	others := []struct {
		why  string
		form string
	}{
		{"nothing", ""},
		{"the count is no number", "f800"},
		{"the count has a second form", "f801 0161 0178 0a 14 00"},
		{"none, and a byte behind", "00 00"},
		{"none, and one behind", "00 0161 0178 0a 14 00"},
		{"one, and nothing behind", "01"},
		{"one, its actor alone", "01 0161"},
		{"one without integers", "01 0161 0178"},
		{"one without a period", "01 0161 0178 0a"},
		{"one without a kind", "01 0161 0178 0a 14"},
		{"one, and a byte behind", "01 0161 0178 0a 14 00 00"},
		{"one, and two are there", "01 0161 0178 0a 14 00 0161 0179 0a 14 00"},
		{"two, and one is there", "02 0161 0178 0a 14 00"},
		{"64 are said, one is there", "40 0161 0178 0a 14 00"},
		{"2^64 - 1 are said, one is there", "ffffffffffffffffff 0161 0178 0a 14 00"},
		{"2^64 - 1 are said, none is there", "ffffffffffffffffff"},
		{"2^32 + 1 are said", "fc0100000001 0161 0178 0a 14 00"},
		{"2^63 are said", "ff8000000000000000"},
		{"the actor is no text", "01 0961 0178 0a 14 00"},
		{"the name is no text", "01 0161 0978 0a 14 00"},
		{"the due tick has a second form", "01 0161 0178 f80a 14 00"},
		{"the period has a second form", "01 0161 0178 0a f814 00"},
		{"the kind has a second form", "01 0161 0178 0a 14 f800"},
		{"the kind ends too early", "01 0161 0178 0a 14 f9ff"},
		{"due below 0", "01 0161 0178 01 14 00"},
		{"period 0", "01 0161 0178 0a 00 00"},
		{"period below 0", "01 0161 0178 0a 01 00"},
		{"no actor", "01 00 0178 0a 14 00"},
	}
	for _, x := range others {
		wantNoQueue(t, x.why, unhex(t, x.form))
	}
}

func TestDecodeOfLessOrMore(t *testing.T) {
	b := formOf(someReminders(mostRemind))
	for size := range b {
		wantNoQueue(t, "a beginning", b[:size])
	}
	for _, more := range []byte{0, 1, 0xf7, 0xf8, 0xff} {
		wantNoQueue(t, "a byte behind", append(slices.Clone(b), more))
	}
	for _, count := range []byte{0, 1, mostRemind - 1, mostRemind + 1, 247} {
		wantNoQueue(t, "another count", append([]byte{count}, b[1:]...))
	}
}

// wantDecode holds a Decode against a queue that is made by Set alone of all that the
// bytes tell, and tells whether there is one: bytes are a queue's, if it has just these.
func wantDecode(t *testing.T, b []byte) bool {
	t.Helper()
	in := codec.NewReader(b)
	p := newPair(t)
	for n := in.Number(); n > 0 && !in.Bad(); n-- {
		p.set("read", remind.Reminder{Actor: in.Text(), Name: in.Text(), Due: in.Int(), Period: in.Int(), Kind: in.Int()})
	}
	if !bytes.Equal(p.q.Encode(), b) {
		wantNoQueue(t, "no queue's", b)
		return false
	}
	wantQueue(t, "a queue's", mustDecode(t, b), p.m.all())
	return true
}

// TestDecodeOfAllSmallParts goes through all lists of at most three small reminders.
func TestDecodeOfAllSmallParts(t *testing.T) {
	var some []remind.Reminder
	for _, actor := range []string{"", "a", "b"} {
		for _, name := range []string{"", "x"} {
			for due := int64(-1); due < 3; due++ {
				some = append(some, at(actor, name, due))
			}
		}
	}
	some = append(some, remind.Reminder{Actor: "a", Name: "x", Due: 1}, remind.Reminder{Actor: "a", Name: "y", Due: 1, Period: 1})
	good := 0
	var walk func(list []remind.Reminder)
	walk = func(list []remind.Reminder) {
		if wantDecode(t, formOf(list)) {
			good++
		}
		for n := 0; n < len(some) && len(list) < 3 && !t.Failed(); n++ {
			walk(append(list, some[n]))
		}
	}
	walk(nil)
	// Four ids with three ticks each, one with one; each set of ids is in the order once.
	if want := 1 + (4*3 + 1) + (6*9 + 4*3) + (4*27 + 6*9); good != want {
		t.Errorf("%d queues; not %d", good, want)
	}
}

// TestDecodeOfNearlyRightBytes changes one byte, or none, of queues of all kinds.
func TestDecodeOfNearlyRightBytes(t *testing.T) {
	r := rand.New(rand.NewSource(53))
	good := 0
	for range 20000 {
		p := newPair(t)
		for range r.Intn(8) {
			p.set("any", remind.Reminder{Actor: strconv.Itoa(r.Intn(3)), Name: "nnn"[:r.Intn(4)], Due: r.Int63() >> r.Intn(63), Period: 1 + r.Int63()>>(1+r.Intn(62)), Kind: int64(r.Uint64()) >> r.Intn(64)})
		}
		b := p.q.Encode()
		if r.Intn(4) > 0 {
			b[r.Intn(len(b))] ^= byte(1 << r.Intn(8))
		}
		if wantDecode(t, b) {
			good++
		}
		if t.Failed() {
			return
		}
	}
	if good < 5000 || good > 19000 {
		t.Errorf("%d queues", good)
	}
}

func TestDecodeUndoesEncode(t *testing.T) {
	r := rand.New(rand.NewSource(54))
	for range 300 {
		p := newPair(t)
		for range r.Intn(100) {
			p.set("any", remind.Reminder{Actor: strings.Repeat("é", 1+r.Intn(20)), Name: strings.Repeat("n", r.Intn(mostKey+1)), Due: r.Int63() >> r.Intn(63), Period: 1 + r.Int63()>>(1+r.Intn(62)), Kind: int64(r.Uint64()) >> r.Intn(64)})
			if r.Intn(3) == 0 {
				p.serve("any", r.Int63()>>r.Intn(63))
			}
		}
		wantQueue(t, "there and back", mustDecode(t, p.q.Encode()), p.m.all())
	}
}

// R1: nil.

func TestNilQueue(t *testing.T) {
	var none *remind.Queue
	for range 2 {
		wantNone(t, "nil", none)
		for _, r := range append(someReminders(3), remind.Reminder{}, at("a", "x", -1)) {
			if e := none.Set(r); e != api.ErrArg {
				t.Errorf("nil: Set(%v) is %v", r, e)
			}
		}
		if b := none.Encode(); len(b) != 0 {
			t.Errorf("nil: Encode is %x", b)
		}
	}
}

// R2: the object's history alone.

func TestEachQueueIsForItself(t *testing.T) {
	a, b := newPair(t), newPair(t)
	a.set("a", at("a", "x", 5))
	b.same("b")
	b.set("b", at("a", "x", 6))
	b.set("b", at("a", "y", 4))
	a.same("a")
	c, d := mustDecode(t, b.q.Encode()), mustDecode(t, b.q.Encode())
	c.Serve(9)
	c.Cancel("a", "x")
	wantQueue(t, "d", d, b.m.all())
}

func TestACopyOfAQueueIsForItself(t *testing.T) {
	for _, count := range []int{0, 3, mostRemind - 1} {
		first := with(t, someReminders(count))
		q := *first.q
		second := with(t, someReminders(count))
		second.q = &q
		first.set("first", at("first", "x", 1))
		second.same("second")
		second.set("second", at("second", "x", 2))
		first.same("first")
		first.serve("first", 9999)
		first.cancel("first", "a0", "n1001")
		second.same("second")
		second.serve("second", 9999)
		first.same("first")
	}
}

func TestAnswersStayTheSame(t *testing.T) {
	p := full(t)
	for range 3 {
		p.same("again")
		wantQueue(t, "decoded again", mustDecode(t, p.q.Encode()), p.m.all())
	}
}

// R3: memory.

// fillBytes overwrites bytes and their spare room.
func fillBytes(b []byte) {
	b = b[:cap(b)]
	for n := range b {
		b[n] = 0xee
	}
}

// fillList overwrites reminders and their spare room.
func fillList(list []remind.Reminder) {
	list = list[:cap(list)]
	for n := range list {
		list[n] = at("filled", "filled", 1)
	}
}

func TestTextsAreNewMemory(t *testing.T) {
	given := remind.Reminder{Actor: strings.Repeat("a", mostKey), Name: strings.Repeat("n", mostKey), Period: 1}
	q := remind.New()
	if e := q.Set(given); e != api.OK {
		t.Fatal(e)
	}
	due, _ := q.Due(0)
	served, _ := q.Serve(0)
	later, _ := q.Due(1)
	again, _ := q.Serve(1)
	seen := map[*byte]bool{unsafe.StringData(given.Actor): true, unsafe.StringData(given.Name): true}
	for _, r := range []remind.Reminder{due, served, later, again, q.All()[0], q.All()[0]} {
		if r.Actor != given.Actor || r.Name != given.Name {
			t.Errorf("%v is another one", r)
		}
		for _, s := range []string{r.Actor, r.Name} {
			if seen[unsafe.StringData(s)] {
				t.Errorf("%q is shared", s)
			}
			seen[unsafe.StringData(s)] = true
		}
	}
}

// TestGivenTextsAreNotKept changes texts behind the calls to which they were given.
func TestGivenTextsAreNotKept(t *testing.T) {
	actor, name := []byte("a"), []byte("xy")
	given := remind.Reminder{Actor: unsafe.String(&actor[0], len(actor)), Name: unsafe.String(&name[0], len(name)), Due: 5, Period: 10}
	q := remind.New()
	for range 2 {
		if e := q.Set(given); e != api.OK {
			t.Fatal(e)
		}
	}
	fillBytes(actor)
	fillBytes(name)
	wantQueue(t, "the texts were filled", q, []remind.Reminder{{Actor: "a", Name: "xy", Due: 5, Period: 10}})
}

func TestAllIsNewMemory(t *testing.T) {
	for count := range mostRemind {
		p := with(t, someReminders(count))
		kept := p.q.All()
		fillList(p.q.All())
		p.same("All's answer was filled")
		if !slices.Equal(kept, someReminders(count)) {
			t.Errorf("two answers of All share memory: %v", kept)
		}
		p.set("behind All", at("b", "", 0))
		p.serve("behind All", 0)
		p.cancel("behind All", "a0", "n1001")
		if !slices.Equal(kept, someReminders(count)) {
			t.Errorf("a call changed what All told: %v", kept)
		}
		p.same("behind All")
	}
}

func TestEncodeIsNewMemory(t *testing.T) {
	p := full(t)
	kept := p.q.Encode()
	fillBytes(p.q.Encode())
	p.same("Encode's answer was filled")
	if !bytes.Equal(kept, formOf(someReminders(mostRemind))) {
		t.Errorf("two answers of Encode share memory: %x", kept)
	}
}

func TestDecodedBytesStayAsTheyAreAndAreNotKept(t *testing.T) {
	list := someReminders(mostRemind)
	room := append(formOf(list), 9, 9, 9)
	was := slices.Clone(room)
	b := room[:len(room)-3]
	q := mustDecode(t, b)
	wantNoQueue(t, "more", room)
	if !bytes.Equal(room, was) {
		t.Errorf("changed: %x; not %x", room, was)
	}
	fillBytes(b)
	wantQueue(t, "the bytes were filled", q, list)
}

// R4: lists of no elements.

func TestNoBytesAreNilOrEmpty(t *testing.T) {
	for _, b := range [][]byte{nil, {}, make([]byte, 0, 9), []byte{1, 2}[:0]} {
		wantNoQueue(t, "no bytes", b)
	}
}
