package engine_test

import (
	"fmt"
	"math"
	"slices"
	"strings"
	"testing"
	"unsafe"

	"reeve/api"
	"reeve/book"
	"reeve/code"
	"reeve/disk"
	"reeve/engine"
	"reeve/remind"
	"reeve/turn"
)

// R1: a nil engine, and one that Open didn't make, answers ErrArg and zero.
func TestNilAndZeroEngine(t *testing.T) {
	for name, e := range map[string]*engine.Engine{"nil": nil, "zero": {}} {
		for range 2 {
			for _, x := range []struct {
				call call
				want any
			}{
				{teach(code.Program{}), nil},
				{offer(1, 1, "a", 0), false},
				{tick(1), 0},
				{pick("a"), turn.Outcome{}},
				{relay("a"), ""},
				{serve(), remind.Reminder{}},
				{setReminder(remind.Reminder{}), nil},
				{cancel("a", "x"), false},
				{pardon("a"), 0},
				{checkpoint(), nil},
			} {
				got, _ := x.call.on(e)
				if want := fmt.Sprintf("%q, %d", fmt.Sprint(x.want), api.ErrArg); got != want {
					t.Errorf("%s: %s: %s; not %s", name, x.call.name, got, want)
				}
			}
			if a, errno := e.Actor("a"); a != nil || errno != api.ErrArg {
				t.Errorf("%s: Actor: %v, %v", name, a, errno)
			}
			if len(e.Keys())+len(e.Reminders())+len(e.Serials(1))+len(e.Resident())+len(e.Counts()) != 0 {
				t.Errorf("%s: something is told", name)
			}
			if e.Clock() != 0 || !code.Same(e.Program(), code.Program{}) || !sameMap(e.Map(), book.Map{}) {
				t.Errorf("%s: something is told", name)
			}
		}
	}
}

// R1: odd arguments are answered too.
func TestOddArguments(t *testing.T) {
	odd := []string{"", "\x00", "\xff\xfe", "a/b", strings.Repeat("k", longKey), strings.Repeat("k", 1000)}
	b := newBoth(t, 2000, 3)
	for i, key := range odd {
		b.do(offer(math.MaxUint64, uint64(i), key, math.MinInt64, math.MinInt64, math.MaxInt64), pick(key), relay(key), pardon(key))
		if goodKey(key) {
			b.do(look(key))
		}
		for _, name := range odd {
			for _, due := range []int64{math.MinInt64, -1, 0, math.MaxInt64} {
				b.do(setReminder(remind.Reminder{Actor: key, Name: name, Due: due, Period: -due}), cancel(key, name))
				b.do(setReminder(remind.Reminder{Actor: key, Name: name, Due: due, Period: math.MaxInt64}))
			}
		}
	}
	b.do(serve(), tick(math.MinInt64), tick(math.MaxInt64), serve(), serve())
	b.sameAll("odd arguments")
}

// R2: two engines are apart.
func TestTwoEngines(t *testing.T) {
	one, other := laid(t), laid(t)
	before := all(t, other.e)
	one.do(teach(adder(t)), offer(5, 5, "e", 0), tick(1), relay("a"), serve(), checkpoint())
	if got := all(t, other.e); got != before {
		t.Errorf("%s; not %s", got, before)
	}
	other.m.resident = other.e.Resident()
	other.m.counts = [8]uint64(other.e.Counts())
	other.sameAll("the other one")
}

// R3: what is handed in is left as it is, spare room too, and not kept.
func TestArgumentsAreNotKept(t *testing.T) {
	b := newBoth(t, 400, 3)
	args := []int64{5, 6, 7, 8}
	instructions := []code.Instr{{Op: 4}, {Op: 3, Arg: 1}, {Op: 21}, {Op: 21}}
	names := []string{"b", "c", "spare"}
	p := code.Program{Names: names[:2], Code: instructions[:2]}
	b.do(teach(p))
	if ok, errno := b.e.Offer(1, 1, "a", 0, args[:2]); !ok || errno != api.OK {
		t.Fatal(ok, errno)
	}
	b.m.Offer(1, 1, "a", 0, slices.Clone(args[:2]))
	if !slices.Equal(args, []int64{5, 6, 7, 8}) || !slices.Equal(names, []string{"b", "c", "spare"}) ||
		!slices.Equal(instructions, []code.Instr{{Op: 4}, {Op: 3, Arg: 1}, {Op: 21}, {Op: 21}}) {
		t.Error("an argument is changed")
	}
	args[0], names[0], instructions[0] = 99, "z", code.Instr{Op: 21}
	b.sameAll("the arguments are others now")
	b.do(pick("a"))
	b.sameAll("picked")
}

// R3: texts that are handed in are not kept: not even in memory that they share.
func TestTextsAreNotKept(t *testing.T) {
	text := []byte("actor-name-inner")
	s := func(from, to int) string { return unsafe.String(&text[from], to-from) }
	e := mustOpen(t, disk.New(400), 5)
	e.Teach(code.Program{Names: []string{s(6, 10)}, Code: []code.Instr{{Op: 1, Arg: 1}, {Op: 1, Arg: 1}, {Op: 19}, {Op: 1}, {Op: 1}, {Op: 17}}})
	e.Offer(1, 1, s(0, 5), 0, nil)
	e.Remind(remind.Reminder{Actor: s(0, 5), Name: s(11, 16), Period: 1})
	e.Pick(s(0, 5))
	e.Actor(s(6, 10))
	told := func() string {
		a := bytesOf(t, e, "actor")
		return fmt.Sprint(kept(e), e.Resident(), a)
	}
	before := told()
	for i := range text {
		text[i] = '#'
	}
	if got := told(); got != before {
		t.Errorf("%s; not %s", got, before)
	}
	if _, errno := e.Relay("actor"); errno != api.OK {
		t.Error(errno)
	}
}

// R3: an answer is new memory: to change it changes nothing that is told.
func TestAnswersAreNew(t *testing.T) {
	b := crowd(t, 9)
	b.do(look("a"), look("full"), look("hurt"), look("stuck"), offer(9, 1, "a", 0))
	before := all(t, b.e)
	a, _ := b.e.Actor("stuck")
	a.Inbox.Pop()
	a.Outbox.Pop()
	a.Outbox, a.Tries = nil, 2
	h, _ := b.e.Actor("hurt")
	h.Poison[0].Args = append(h.Poison[0].Args, 7)
	h.Poison[0].Kind++
	p := b.e.Program()
	p.Names[0], p.Code[0].Op = "z", 21
	_ = append(p.Names, "more")
	q := b.e.Reminders()
	q[0].Due, q[0].Actor = 99, "z"
	for _, list := range [][]string{b.e.Keys(), b.e.Resident()} {
		for i := range list {
			list[i] = "z"
		}
	}
	w := b.e.Serials(9)
	w[0] = 99
	c := b.e.Counts()
	c[0] = 99
	m, mapped := b.e.Map(), b.e.Map()
	for _, list := range [][]int{m.Super, m.Log, m.Used, m.Free} {
		for i := range list {
			list[i] = -1
		}
		_ = append(list, -1)
	}
	if got := all(t, b.e); got != before {
		t.Error("an answer was the engine's own memory")
	}
	if !sameMap(b.e.Map(), mapped) || b.e.Counts()[0] == 99 {
		t.Error("an answer was the engine's own memory")
	}
	b.lasts("the answers were changed")
}

// R3: no two texts of answers share memory with one another, or with an argument.
func TestTextsAreNew(t *testing.T) {
	e := mustOpen(t, disk.New(400), 5)
	p := program(t, "n:bcd", "n:efg", "push 1", "push 1", "send 0", "push 1", "push 1", "remind 1", "cancel 0")
	e.Teach(p)
	key, name := strings.Clone("actor"), strings.Clone("name")
	e.Offer(1, 1, key, 0, nil)
	e.Offer(1, 2, key, 0, nil)
	e.Remind(remind.Reminder{Actor: key, Name: name, Period: 1})
	texts := []string{key, name, p.Names[0], p.Names[1]}
	take := func(list ...string) { texts = append(texts, list...) }
	for range 2 {
		o, errno := e.Pick(key)
		if errno != api.OK {
			t.Fatal(errno)
		}
		for _, x := range o.Timers {
			take(x.Name)
		}
		to, _ := e.Relay(key)
		r, _ := e.Serve()
		a, _ := e.Actor(key)
		take(to, r.Actor, r.Name, a.Key())
		for range 2 {
			take(e.Keys()...)
			take(e.Resident()...)
			take(e.Program().Names...)
		}
		for _, r := range e.Reminders() {
			take(r.Actor, r.Name)
		}
	}
	seen := map[*byte]int{}
	for i, s := range texts {
		if s == "" {
			continue
		}
		if j, ok := seen[unsafe.StringData(s)]; ok {
			t.Errorf("%q and %q share memory (%d, %d)", texts[j], s, j, i)
		}
		seen[unsafe.StringData(s)] = i
	}
}

// R5: beside an error all else is zero.
func TestZeroBesideAnError(t *testing.T) {
	b := crowd(t, 9)
	b.do(serve())
	o, errno := b.e.Pick("stuck")
	if errno != api.ErrState || o.Done || o.Poisoned || o.Failed != api.OK || o.Steps != 0 || o.Timers != nil {
		t.Errorf("%v, %v", o, errno)
	}
	if to, errno := b.e.Relay("toFull"); errno != api.ErrInbox || to != "" {
		t.Errorf("%q, %v", to, errno)
	}
	if r, errno := b.e.Serve(); errno != api.ErrInbox || r != (remind.Reminder{}) {
		t.Errorf("%v, %v", r, errno)
	}
	if now, errno := b.e.Tick(-1); errno != api.ErrRange || now != 0 {
		t.Errorf("%d, %v", now, errno)
	}
	b.d.SetFuse(0)
	if now, errno := b.e.Tick(1); errno != api.ErrLost || now != 0 {
		t.Errorf("%d, %v", now, errno)
	}
}
