package engine_test

import (
	"fmt"
	"math"
	"slices"
	"strings"
	"testing"

	"reeve/actor"
	"reeve/api"
	"reeve/code"
	"reeve/disk"
	"reeve/engine"
	"reeve/interp"
	"reeve/remind"
	"reeve/super"
	"reeve/turn"
)

const farthest = math.MaxInt64

// adder adds the letter's first argument to the register 0.
func adder(t *testing.T) code.Program {
	t.Helper()
	return program(t, "load 0", "arg 0", "add", "store 0")
}

// sender sends a letter of kind 1, with the first argument, to b.
func sender(t *testing.T) code.Program {
	t.Helper()
	return program(t, "n:b", "push 1", "arg 0", "send 0")
}

// The chapter's example.
func TestExample(t *testing.T) {
	e := mustOpen(t, disk.New(400), 2)
	if errno := e.Teach(adder(t)); errno != api.OK {
		t.Error(errno)
	}
	if ok, errno := e.Offer(1, 1, "a", 0, []int64{5}); !ok || errno != api.OK {
		t.Error(ok, errno)
	}
	if ok, errno := e.Offer(1, 1, "a", 0, []int64{5}); ok || errno != api.OK {
		t.Error(ok, errno)
	}
	if o, errno := e.Pick("a"); !o.Done || errno != api.OK {
		t.Error(o, errno)
	}
	a, errno := e.Actor("a")
	if errno != api.OK || a.Journal.State() != [8]int64{5} {
		t.Error(a, errno)
	}
}

// P22.1: layer 10's error of a disk that is none, too small, or down.
func TestOpenOfNoDisk(t *testing.T) {
	down, small := disk.New(fewestBlocks), disk.New(fewestBlocks-1)
	for _, d := range []*disk.Disk{down, small} {
		d.SetFuse(0)
		d.Write(0, make([]byte, api.BlockSize))
	}
	for _, x := range []struct {
		name string
		d    *disk.Disk
		want api.Errno
	}{
		{"nil", nil, api.ErrArg},
		{"no blocks", disk.New(0), api.ErrArg},
		{"23 blocks", disk.New(fewestBlocks - 1), api.ErrArg},
		{"23 blocks, down", small, api.ErrArg},
		{"24 blocks, down", down, api.ErrLost},
	} {
		if e, errno := engine.Open(x.d, 1); e != nil || errno != x.want {
			t.Errorf("%s: %v, %v; not %v", x.name, e, errno, x.want)
		}
	}
	mustOpen(t, disk.New(fewestBlocks), 1)
}

// P22.1: a new disk is an engine with nothing in it, and opening it writes nothing.
func TestOpenOfANewDisk(t *testing.T) {
	b := newBoth(t, fewestBlocks, 5)
	b.sameAll("new")
	if b.d.Writes() != 0 {
		t.Errorf("%d writes", b.d.Writes())
	}
	if b.e.Clock() != 0 || len(b.e.Program().Code) != 0 || len(b.e.Program().Names) != 0 {
		t.Error("a clock or a program")
	}
	if got := b.e.Counts(); !slices.Equal(got, make([]uint64, 8)) {
		t.Error(got)
	}
}

// laid is a disk with something of each kind in its engine's book.
func laid(t *testing.T) *both {
	t.Helper()
	b := newBoth(t, 400, 5)
	b.do(teach(sender(t)), offer(3, 1, "a", 2, 5), offer(3, 2, "c", 2, 5), pick("a"), tick(7),
		setReminder(remind.Reminder{Actor: "c", Name: "x", Due: 9, Period: 2, Kind: 4}))
	return b
}

// P22.1: ErrForm of a record that is no book's.
func TestOpenOfAnotherRecord(t *testing.T) {
	d := disk.New(100)
	s, _ := super.Open(d)
	if errno := s.Save([]byte("no book's record")); errno != api.OK {
		t.Fatal(errno)
	}
	if e, errno := engine.Open(d, 1); e != nil || errno != api.ErrForm {
		t.Errorf("%v, %v", e, errno)
	}
}

// wantForm asks that a disk like b's, on whose book the change is laid, is no engine's.
func (b *both) wantForm(what string, list ...api.Change) {
	b.t.Helper()
	again := b.copied(1)
	onBook(b.t, again.d, list...)
	if e, errno := engine.Open(again.d, 1); e != nil || errno != api.ErrForm {
		b.t.Errorf("%s: %v, %v", what, e, errno)
	}
}

// P22.1: ErrForm, if an entry is none that an engine lays.
func TestOpenOfSpoiledEntries(t *testing.T) {
	b := laid(t)
	entries := inBook(t, b.d)
	if len(entries) != 6 {
		t.Fatalf("%d entries", len(entries))
	}
	for _, x := range entries {
		for what, value := range map[string][]byte{
			"none":        nil,
			"one more":    append(slices.Clone(x.Value), 0),
			"one less":    x.Value[:len(x.Value)-1],
			"one other":   append([]byte{0xff}, x.Value[1:]...),
			"nought more": append([]byte{0x80}, x.Value...),
		} {
			b.wantForm(fmt.Sprintf("%q: %s", x.Key, what), api.Change{Key: x.Key, Value: value})
		}
		b.wantForm(fmt.Sprintf("%q at a key of a byte more", x.Key), api.Change{Key: x.Key + "+", Value: x.Value})
		b.wantForm(fmt.Sprintf("%q at a key of a byte less", x.Key), api.Change{Key: x.Key[:len(x.Key)-1], Value: x.Value})
	}
	for _, key := range []string{"a", "\x00", "zz", "actor/", "actor/d", "actor", "actor0", "engine/", "engine", strings.Repeat("x", 64)} {
		b.wantForm("another key "+key, api.Change{Key: key, Value: entries[0].Value})
	}
}

// P22.1: an engine lays nothing of what is as in a new one; and no clock above 2^63 - 1.
func TestOpenOfEntriesThatSayNothing(t *testing.T) {
	b := laid(t)
	a, _ := actor.New("d")
	fresh, _ := a.Encode()
	for _, x := range []api.Change{
		{Key: "actor/d", Value: fresh},
		{Key: "engine/clock", Value: []byte{0}},
		{Key: "engine/program", Value: []byte{0, 0}},
		{Key: "engine/reminders", Value: []byte{0}},
		{Key: "engine/window", Value: []byte{0}},
		{Key: "engine/clock", Value: []byte{0xff, 0x80, 0, 0, 0, 0, 0, 0, 0}},
	} {
		b.wantForm(fmt.Sprintf("%q: %x", x.Key, x.Value), x)
	}
	last := []byte{0xff, 0x7f, 0xff, 0xff, 0xff, 0xff, 0xff, 0xff, 0xff}
	onBook(t, b.d, api.Change{Key: "engine/clock", Value: last})
	if e := mustOpen(t, b.d, 1); e.Clock() != farthest {
		t.Error(e.Clock())
	}
}

// P22.1: a book that was emptied again is a new engine's.
func TestOpenOfAnEmptiedBook(t *testing.T) {
	b := laid(t)
	var list []api.Change
	for _, x := range inBook(t, b.d) {
		list = append(list, api.Change{Key: x.Key, Gone: true})
	}
	onBook(t, b.d, list...)
	empty := &both{t, b.d, mustOpen(t, b.d, 5), newModel(5)}
	empty.sameAll("emptied")
}

// P22.1: at least one is in memory, and at most 10000.
func TestResidentBounds(t *testing.T) {
	for _, most := range []int{math.MinInt, -1, 0, 1, 2, 3} {
		b := newBoth(t, 100, most)
		b.do(look("a"), look("b"), look("a"), look("c"), look("d"))
		if got := len(b.e.Resident()); got != min(max(most, 1), 4) {
			t.Errorf("%d: %d", most, got)
		}
	}
	for _, most := range []int{mostResident, mostResident + 1, math.MaxInt} {
		e := mustOpen(t, disk.New(100), most)
		for i := range mostResident {
			e.Actor(fmt.Sprint(i))
		}
		if got := e.Counts()[cPutAway]; got != 0 {
			t.Errorf("%d: %d are put away", most, got)
		}
		e.Actor("one more")
		list := e.Resident()
		if len(list) != mostResident || list[0] != "1" || e.Counts()[cPutAway] != 1 {
			t.Errorf("%d: %d, from %q on", most, len(list), list[0])
		}
	}
}

// P22.3: Teach.
func TestTeach(t *testing.T) {
	b := newBoth(t, 400, 2)
	b.want(teach(adder(t)), nil, api.OK)
	b.sameAll("taught")
	many := code.Program{Code: slices.Repeat([]code.Instr{{Op: 22}}, 201)}
	for _, p := range []code.Program{
		many,
		{Names: []string{""}},
		{Names: []string{strings.Repeat("k", longKey+1)}},
		{Names: slices.Repeat([]string{"k"}, 9)},
		{Code: []code.Instr{{Op: 24}}},
		{Code: []code.Instr{{Op: -1}}},
		{Code: []code.Instr{{Op: 2, Arg: 8}}},
		{Code: []code.Instr{{Op: 15, Arg: 2}}},
		{Code: []code.Instr{{Op: 17}}},
		{Code: []code.Instr{{Op: 0, Arg: 1}}},
	} {
		writes := b.d.Writes()
		b.want(teach(p), nil, api.ErrArg)
		if b.d.Writes() != writes {
			t.Error("a refused program writes")
		}
	}
	b.sameAll("still taught")
	b.want(teach(code.Program{Code: many.Code[:200], Names: slices.Repeat([]string{strings.Repeat("k", longKey)}, 8)}), nil, api.OK)
	b.sameAll("the longest one")
	b.want(teach(code.Program{Names: []string{"only a name"}}), nil, api.OK)
	b.sameAll("a name")
	b.want(teach(code.Program{}), nil, api.OK)
	b.sameAll("none")
}

// P22.3: the program is that of every turn from then on, of all actors.
func TestProgramOfAll(t *testing.T) {
	b := newBoth(t, 400, 1)
	b.do(offer(1, 1, "a", 0, 5), offer(1, 2, "b", 0, 6), offer(1, 3, "a", 0, 7))
	b.want(pick("a"), turn.Outcome{Done: true}, api.OK)
	b.do(teach(adder(t)))
	b.want(pick("a"), turn.Outcome{Done: true, Steps: 4}, api.OK)
	b.want(pick("b"), turn.Outcome{Done: true, Steps: 4}, api.OK)
	b.sameAll("three turns")
	for key, want := range map[string]int64{"a": 7, "b": 6} {
		if a, _ := b.e.Actor(key); a.Journal.State()[0] != want {
			t.Errorf("%q: %d", key, a.Journal.State())
		}
	}
}

// P22.3: Offer.
func TestOffer(t *testing.T) {
	b := newBoth(t, 400, 2)
	b.want(offer(7, 9, "a", -3, 1, 2, 3, farthest), true, api.OK)
	b.sameAll("offered")
	a, _ := b.e.Actor("a")
	want := api.Letter{Serial: 9, Kind: -3, Args: []int64{1, 2, 3, farthest}}
	if got, _ := a.Inbox.First(); a.Inbox.Len() != 1 || fmt.Sprint(got) != fmt.Sprint(want) {
		t.Error(got)
	}
	b.do(look("a"))
	writes := b.d.Writes()
	b.want(offer(7, 9, "b", 1), false, api.OK)
	b.want(offer(7, 9, strings.Repeat("b", longKey), 1, 1, 2, 3, 4), false, api.OK)
	for _, x := range []call{
		offer(7, 10, "", 1),
		offer(7, 10, strings.Repeat("b", longKey+1), 1),
		offer(7, 10, "b", 1, 1, 2, 3, 4, 5),
		// What is wrong comes ahead of what was seen.
		offer(7, 9, "", 1),
		offer(7, 9, strings.Repeat("b", longKey+1), 1),
		offer(7, 9, "a", 1, 1, 2, 3, 4, 5),
	} {
		b.want(x, false, api.ErrArg)
	}
	if b.d.Writes() != writes {
		t.Error("an offer that lays nothing writes")
	}
	b.want(offer(8, 9, "\x00\xff", math.MinInt64), true, api.OK)
	b.want(offer(0, 0, strings.Repeat("b", longKey), 0), true, api.OK)
	b.want(offer(math.MaxUint64, math.MaxUint64, "a", 0), true, api.OK)
	if got := b.e.Serials(math.MaxUint64); !slices.Equal(got, []uint64{math.MaxUint64}) {
		t.Error(got)
	}
	b.sameAll("the bounds")
}

// P22.3: an offer to a full inbox; a repeated one is answered false ahead of that.
func TestOfferToAFullInbox(t *testing.T) {
	b := newBoth(t, 400, 2)
	for i := range uint64(mostInbox) {
		b.want(offer(i, 1, "a", 0), true, api.OK)
	}
	writes := b.d.Writes()
	b.want(offer(50, 1, "a", 0), false, api.ErrInbox)
	b.want(offer(7, 1, "a", 0), false, api.OK)
	if b.d.Writes() != writes || len(b.e.Serials(50)) != 0 {
		t.Error("a refused offer lays something")
	}
	b.want(offer(50, 1, "b", 0), true, api.OK)
	b.do(pick("a"))
	// The window has its serial now, wherever that letter went.
	b.want(offer(50, 1, "a", 0), false, api.OK)
	b.want(offer(51, 1, "a", 0), true, api.OK)
	b.sameAll("room again")
}

// P22.3, P3: the window remembers four serials of each of 64 clients, also behind an Open.
func TestWindow(t *testing.T) {
	b := newBoth(t, 400, 2)
	for i := range uint64(mostSerials + 1) {
		b.want(offer(1, 10+i, "a", 0), true, api.OK)
	}
	if got := b.e.Serials(1); !slices.Equal(got, []uint64{11, 12, 13, 14}) {
		t.Error(got)
	}
	b = b.copied(2)
	for i := range uint64(mostSerials) {
		b.want(offer(1, 11+i, "a", 0), false, api.OK)
	}
	b.want(offer(1, 10, "a", 0), true, api.OK)
	b.do(teach(code.Program{}))
	for i := range uint64(mostClients - 1) {
		b.want(offer(2+i, 1, "b", 0), true, api.OK)
		b.do(pick("b"))
	}
	b.want(offer(1, 10, "b", 0), false, api.OK)
	b.want(offer(2, 2, "c", 0), true, api.OK)
	b.want(offer(99, 1, "c", 0), true, api.OK)
	if got := b.e.Serials(1); len(got) != 0 {
		t.Error(got)
	}
	b.want(offer(1, 10, "c", 0), true, api.OK)
	b.sameAll("clients are forgotten")
}

// P22.3: Tick.
func TestTick(t *testing.T) {
	b := newBoth(t, 400, 2)
	b.want(tick(0), 0, api.OK)
	b.sameAll("no time")
	b.want(tick(7), 7, api.OK)
	b.want(tick(1), 8, api.OK)
	b.sameAll("some time")
	writes := b.d.Writes()
	for _, by := range []int64{-1, math.MinInt64, farthest, farthest - 7} {
		b.want(tick(by), 0, api.ErrRange)
	}
	if b.d.Writes() != writes {
		t.Error("a refused tick writes")
	}
	b.want(tick(farthest-8), int64(farthest), api.OK)
	b.want(tick(1), 0, api.ErrRange)
	b.want(tick(0), int64(farthest), api.OK)
	b.sameAll("all time")
}

// P22.4: a turn that is done: registers, letters and reminders come of it at once.
func TestPickDone(t *testing.T) {
	b := newBoth(t, 400, 2)
	b.do(teach(program(t, "n:b", "n:later",
		"arg 0", "store 3", "push 6", "push 60", "send 0", "push 5", "push 50", "send 1",
		"push 10", "push 2", "remind 1", "now", "store 0")))
	b.do(tick(100), offer(1, 1, "a", 9, 5), offer(1, 2, "a", 8))
	timers := []interp.Timer{{Name: "later", Due: 110, Period: 2, Kind: 9}}
	b.want(pick("a"), turn.Outcome{Done: true, Steps: 13, Timers: timers}, api.OK)
	b.sameAll("done")
	a, _ := b.e.Actor("a")
	if a.Inbox.Len() != 1 || len(a.Outbox.All()) != 2 || a.Journal.State() != [8]int64{100, 0, 0, 5} {
		t.Errorf("%v, %v, %d", a.Inbox.All(), a.Outbox.All(), a.Journal.State())
	}
	if got := b.e.Reminders(); len(got) != 1 || got[0] != (remind.Reminder{Actor: "a", Name: "later", Due: 110, Period: 2, Kind: 9}) {
		t.Errorf("%v", got)
	}
}

// P22.4: a turn that fails sets no reminder; the third one in vain is poison.
func TestPickFails(t *testing.T) {
	b := newBoth(t, 400, 2)
	b.do(teach(program(t, "n:x", "push 1", "push 1", "remind 0", "fail")))
	b.do(offer(1, 1, "a", 9, 5), offer(1, 2, "a", 8))
	for try := range mostTries {
		b.want(pick("a"), turn.Outcome{Failed: api.ErrRefused, Steps: 4, Poisoned: try == mostTries-1}, api.OK)
		b.sameAll("failed")
	}
	a, _ := b.e.Actor("a")
	if a.Inbox.Len() != 1 || len(a.Poison) != 1 || a.Poison[0].Kind != 9 || len(b.e.Reminders()) != 0 {
		t.Errorf("%v, %v", a.Inbox.All(), a.Poison)
	}
	for what, errno := range map[string]api.Errno{"drop": api.ErrStack, "jump 0": api.ErrBudget} {
		c := b.copied(1)
		c.do(teach(program(t, what)), pick("a"))
		if o, _ := c.m.Pick("a"); o.Failed != errno {
			t.Error(o)
		}
	}
}

// P22.4: what is no turn, and what can't be laid down.
func TestPickRefused(t *testing.T) {
	b := newBoth(t, 400, 3)
	b.nothingWritten(pick("a"), pick(""), pick(strings.Repeat("a", longKey+1)))
	b.want(pick("a"), turn.Outcome{}, api.ErrNone)
	b.want(pick(""), turn.Outcome{}, api.ErrArg)
	b.want(pick(strings.Repeat("a", longKey+1)), turn.Outcome{}, api.ErrArg)
	// The outbox is full behind eight turns of four letters.
	b.do(teach(program(t, "n:b", "push 1", "push 2", "send 0", "push 1", "push 2", "send 0", "push 1", "push 2", "send 0",
		"push 1", "push 2", "send 0")))
	for i := range uint64(mostWaiting / 4) {
		b.do(offer(1, i, "a", 0))
		b.want(pick("a"), turn.Outcome{Done: true, Steps: 12}, api.OK)
	}
	b.do(offer(1, 50, "a", 0))
	b.sameAll("full outbox")
	b.nothingWritten(pick("a"))
	b.want(pick("a"), turn.Outcome{}, api.ErrState)
	b.sameAll("refused by the outbox")
	b.do(relay("a"), relay("a"), relay("a"))
	b.want(pick("a"), turn.Outcome{}, api.ErrState)
	b.do(relay("a"))
	b.want(pick("a"), turn.Outcome{Done: true, Steps: 12}, api.OK)
	// Eight letters are poison: the ninth one stays, at its third time in vain.
	b.do(teach(program(t, "fail")))
	for i := range uint64(mostInbox + 1) {
		b.do(offer(2, i, "c", int64(i)), pick("c"), pick("c"))
		want, errno := turn.Outcome{Failed: api.ErrRefused, Steps: 1, Poisoned: true}, api.OK
		if i == mostInbox {
			want, errno = turn.Outcome{}, api.ErrState
		}
		b.want(pick("c"), want, errno)
	}
	b.sameAll("refused by the poison")
}

// full sets all 64 reminders, but so many.
func (b *both) full(but int) {
	b.t.Helper()
	for i := range mostReminders - but {
		b.do(setReminder(remind.Reminder{Actor: "other", Name: fmt.Sprint(i), Due: int64(1000 + i), Period: 1}))
	}
}

// P22.4: ErrState, if a reminder has no room; the Timers are done in their order.
func TestPickWithTimers(t *testing.T) {
	two := []string{"n:x", "n:y", "push 5", "push 7", "remind 0", "push 6", "push 7", "remind 1"}
	swap := []string{"n:x", "n:y", "cancel 0", "push 6", "push 7", "remind 1"}
	late := []string{"n:x", "n:y", "push 6", "push 7", "remind 1", "cancel 0"}
	again := []string{"n:x", "push 6", "push 7", "remind 0", "push 8", "push 9", "remind 0"}
	undo := []string{"n:x", "n:y", "push 6", "push 7", "remind 1", "cancel 1", "push 6", "push 7", "remind 0"}
	x := setReminder(remind.Reminder{Actor: "a", Name: "x", Due: 3, Period: 4, Kind: 1})
	for _, c := range []struct {
		name  string
		but   int
		first []call
		lines []string
		errno api.Errno
	}{
		{"room for both", 2, nil, two, api.OK},
		{"room for one", 1, nil, two, api.ErrState},
		{"room for none", 0, nil, two, api.ErrState},
		{"room for the new one", 2, []call{x}, two, api.OK},
		{"no room for the new one", 1, []call{x}, two, api.ErrState},
		{"cancelled first", 1, []call{x}, swap, api.OK},
		{"cancelled, but not there", 0, nil, swap, api.ErrState},
		{"cancelled too late", 1, []call{x}, late, api.ErrState},
		{"cancelled too late, with room", 2, []call{x}, late, api.OK},
		{"in its own place", 1, []call{x}, again, api.OK},
		{"set twice", 1, nil, again, api.OK},
		{"set and cancelled", 1, nil, undo, api.OK},
		{"set and cancelled, without room", 0, nil, undo, api.ErrState},
	} {
		b := newBoth(t, 400, 2)
		b.full(c.but)
		b.do(c.first...)
		b.do(teach(program(t, c.lines...)), offer(1, 1, "a", 2))
		b.sameAll(c.name)
		if errno := b.do(pick("a")); errno != c.errno {
			t.Errorf("%s: %v; not %v", c.name, errno, c.errno)
		}
		b.sameAll(c.name)
	}
}

// P22.4: a turn sets and cancels its own actor's reminders alone.
func TestPickLeavesOthersReminders(t *testing.T) {
	b := newBoth(t, 400, 2)
	for _, key := range []string{"a", "b"} {
		b.do(setReminder(remind.Reminder{Actor: key, Name: "x", Due: 1, Period: 1}),
			setReminder(remind.Reminder{Actor: key, Name: "y", Due: 2, Period: 1}))
	}
	b.do(teach(program(t, "n:x", "n:y", "cancel 0", "push 6", "push 7", "remind 1")), offer(1, 1, "a", 2), pick("a"))
	want := []remind.Reminder{
		{Actor: "b", Name: "x", Due: 1, Period: 1}, {Actor: "b", Name: "y", Due: 2, Period: 1},
		{Actor: "a", Name: "y", Due: 6, Period: 7, Kind: 2},
	}
	if got := b.e.Reminders(); !slices.Equal(got, want) {
		t.Errorf("%v", got)
	}
	b.sameAll("set and cancelled")
}

// P22.4: Relay.
func TestRelay(t *testing.T) {
	b := newBoth(t, 400, 2)
	b.nothingWritten(relay("a"), relay(""), relay(strings.Repeat("a", longKey+1)))
	b.want(relay("a"), "", api.ErrNone)
	b.want(relay(""), "", api.ErrArg)
	b.want(relay(strings.Repeat("a", longKey+1)), "", api.ErrArg)
	b.do(teach(sender(t)))
	for i := range uint64(mostInbox + 2) {
		b.do(offer(1, i, "a", 0, int64(i)), pick("a"))
	}
	for range mostInbox {
		b.want(relay("a"), "b", api.OK)
		b.sameAll("relayed")
	}
	c, _ := b.e.Actor("b")
	for i, l := range c.Inbox.All() {
		want := api.Letter{From: "a", Serial: uint64(i + 1), Kind: 1, Args: []int64{int64(i)}}
		if fmt.Sprint(l) != fmt.Sprint(want) {
			t.Errorf("%v; not %v", l, want)
		}
	}
	b.do(look("b"))
	b.nothingWritten(relay("a"))
	b.want(relay("a"), "", api.ErrInbox)
	b.sameAll("full inbox")
	b.do(pick("b"))
	b.want(relay("a"), "b", api.OK)
	// What b has done is on its way to b itself.
	b.want(relay("b"), "", api.ErrInbox)
	b.do(pick("b"), pick("b"))
	b.want(relay("b"), "b", api.OK)
	b.want(relay("b"), "b", api.OK)
	b.sameAll("relayed to itself")
	b.want(relay("a"), "", api.ErrInbox)
	b.do(pick("b"))
	b.want(relay("a"), "b", api.OK)
	b.want(relay("a"), "", api.ErrNone)
	b.sameAll("all relayed")
}

// P22.4: a reply goes to the one who sent, and none to the outside.
func TestRelayOfReplies(t *testing.T) {
	b := newBoth(t, 400, 1)
	b.do(teach(program(t, "n:b", "push 2", "arg 0", "reply", "serial", "jumpz 10", "push 1", "arg 0", "kind", "drop", "send 0")))
	b.do(offer(1, 1, "a", 0, 5), pick("a"), relay("a"), pick("b"), relay("b"), pick("a"), relay("a"), relay("a"), relay("b"))
	b.sameAll("replied")
}

// P22.5: Serve.
func TestServe(t *testing.T) {
	b := newBoth(t, 400, 2)
	b.nothingWritten(serve())
	b.want(serve(), remind.Reminder{}, api.ErrNone)
	x := remind.Reminder{Actor: "a", Name: "x", Due: 5, Period: 10, Kind: -3}
	y := remind.Reminder{Actor: "b", Name: "", Due: 7, Period: farthest, Kind: 4}
	b.do(setReminder(y), setReminder(x), tick(4))
	b.nothingWritten(serve())
	b.want(serve(), remind.Reminder{}, api.ErrNone)
	b.do(tick(1))
	b.want(serve(), x, api.OK)
	b.sameAll("served")
	a, _ := b.e.Actor("a")
	if got, _ := a.Inbox.First(); fmt.Sprint(got) != fmt.Sprint(api.Letter{Kind: -3, Args: []int64{5}}) {
		t.Error(got)
	}
	b.do(look("a"))
	b.want(serve(), remind.Reminder{}, api.ErrNone)
	b.do(tick(20))
	b.want(serve(), y, api.OK)
	b.sameAll("the last one of b")
	for _, due := range []int64{15, 25} {
		x.Due = due
		b.want(serve(), x, api.OK)
	}
	b.want(serve(), remind.Reminder{}, api.ErrNone)
	if got := b.e.Reminders(); len(got) != 1 || got[0].Due != 35 {
		t.Error(got)
	}
	b.sameAll("all served")
}

// P22.5: a reminder whose actor's inbox is full stands ahead of all others, and stays.
func TestServeToAFullInbox(t *testing.T) {
	b := newBoth(t, 400, 2)
	b.do(setReminder(remind.Reminder{Actor: "a", Name: "x", Due: 5, Period: 1}), tick(4+mostInbox))
	b.do(setReminder(remind.Reminder{Actor: "b", Name: "x", Due: 4 + mostInbox, Period: 1}))
	for i := range int64(mostInbox - 1) {
		b.want(serve(), remind.Reminder{Actor: "a", Name: "x", Due: 5 + i, Period: 1}, api.OK)
	}
	b.do(offer(1, 1, "a", 0))
	b.sameAll("full")
	b.nothingWritten(serve())
	b.want(serve(), remind.Reminder{}, api.ErrInbox)
	b.sameAll("refused")
	b.do(pick("a"))
	b.want(serve(), remind.Reminder{Actor: "a", Name: "x", Due: 4 + mostInbox, Period: 1}, api.OK)
	b.want(serve(), remind.Reminder{Actor: "b", Name: "x", Due: 4 + mostInbox, Period: 1}, api.OK)
	b.sameAll("served")
}

// P22.5: a reminder that would be due above 2^63 - 1 is gone.
func TestServeOfTheLastTime(t *testing.T) {
	b := newBoth(t, 400, 2)
	b.do(setReminder(remind.Reminder{Actor: "a", Name: "x", Due: farthest - 1, Period: 1}),
		setReminder(remind.Reminder{Actor: "a", Name: "y", Due: 0, Period: farthest}), tick(farthest))
	b.want(serve(), remind.Reminder{Actor: "a", Name: "y", Due: 0, Period: farthest}, api.OK)
	b.want(serve(), remind.Reminder{Actor: "a", Name: "x", Due: farthest - 1, Period: 1}, api.OK)
	b.want(serve(), remind.Reminder{Actor: "a", Name: "x", Due: farthest, Period: 1}, api.OK)
	b.want(serve(), remind.Reminder{Actor: "a", Name: "y", Due: farthest, Period: farthest}, api.OK)
	b.want(serve(), remind.Reminder{}, api.ErrNone)
	if len(b.e.Reminders()) != 0 {
		t.Error(b.e.Reminders())
	}
	b.sameAll("none left")
}

// P22.5: Remind and Cancel.
func TestRemindAndCancel(t *testing.T) {
	long := strings.Repeat("n", longKey)
	b := newBoth(t, 400, 2)
	b.want(setReminder(remind.Reminder{Actor: long, Name: long, Due: farthest, Period: farthest, Kind: math.MinInt64}), nil, api.OK)
	b.want(setReminder(remind.Reminder{Actor: "a", Due: 0, Period: 1}), nil, api.OK)
	b.sameAll("set")
	writes := b.d.Writes()
	for _, r := range []remind.Reminder{
		{Period: 1}, {Actor: long + "n", Period: 1}, {Actor: "a", Name: long + "n", Period: 1}, {Actor: "", Due: -1},
	} {
		b.want(setReminder(r), nil, api.ErrArg)
	}
	for _, r := range []remind.Reminder{
		{Actor: "a", Due: -1, Period: 1}, {Actor: "a", Due: math.MinInt64, Period: 1}, {Actor: "a"}, {Actor: "a", Period: -1},
	} {
		b.want(setReminder(r), nil, api.ErrRange)
	}
	if b.d.Writes() != writes {
		t.Error("a refused reminder writes")
	}
	b.full(2)
	writes = b.d.Writes()
	b.want(setReminder(remind.Reminder{Actor: "a", Name: "more", Period: 1}), nil, api.ErrFull)
	b.want(cancel("a", "more"), false, api.OK)
	b.want(cancel("other", ""), false, api.OK)
	b.want(cancel("", ""), false, api.OK)
	b.want(cancel(long+"n", long+"n"), false, api.OK)
	if b.d.Writes() != writes {
		t.Error("what changes nothing writes")
	}
	b.want(setReminder(remind.Reminder{Actor: "a", Due: 8, Period: 9}), nil, api.OK)
	b.sameAll("in its place")
	b.want(cancel("a", ""), true, api.OK)
	b.want(cancel("a", ""), false, api.OK)
	b.sameAll("cancelled")
	b.want(setReminder(remind.Reminder{Actor: "a", Name: "more", Period: 1}), nil, api.OK)
	b.want(cancel(long, long), true, api.OK)
	b.sameAll("another one")
}

// P22.5: the last reminder may be cancelled too.
func TestCancelOfTheLastOne(t *testing.T) {
	b := newBoth(t, 400, 2)
	b.do(setReminder(remind.Reminder{Actor: "a", Due: 0, Period: 1}), cancel("a", ""))
	b.sameAll("none")
	if got := inBook(t, b.d); len(got) != 0 {
		t.Errorf("%v", got)
	}
}

// P22.5: Pardon.
func TestPardon(t *testing.T) {
	b := newBoth(t, 400, 2)
	b.nothingWritten(pardon("a"), pardon(""), pardon(strings.Repeat("a", longKey+1)))
	b.want(pardon("a"), 0, api.OK)
	b.want(pardon(""), 0, api.ErrArg)
	b.want(pardon(strings.Repeat("a", longKey+1)), 0, api.ErrArg)
	b.do(teach(program(t, "fail")))
	for i := range uint64(2) {
		b.do(offer(1, i, "a", 0), pick("a"), pick("a"), pick("a"))
	}
	b.do(offer(1, 2, "a", 0), pick("a"))
	b.sameAll("poison")
	b.want(pardon("a"), 2, api.OK)
	b.sameAll("pardoned")
	b.nothingWritten(pardon("a"))
	b.want(pardon("a"), 0, api.OK)
	a, _ := b.e.Actor("a")
	if a.Tries != 1 || a.Inbox.Len() != 1 || len(a.Poison) != 0 {
		t.Errorf("%d, %d, %d", a.Tries, a.Inbox.Len(), len(a.Poison))
	}
}

// P22.5, P22.6: an actor of which nothing is left is fresh again, and isn't kept.
func TestFreshAgain(t *testing.T) {
	b := newBoth(t, 400, 2)
	b.do(offer(1, 1, "a", 0), teach(program(t, "fail")), pick("a"), pick("a"), pick("a"))
	if got := b.e.Keys(); !slices.Equal(got, []string{"a"}) {
		t.Error(got)
	}
	b.want(pardon("a"), 1, api.OK)
	b.sameAll("pardoned")
	b.do(teach(code.Program{}), offer(1, 2, "b", 0), pick("b"))
	b.sameAll("an empty turn")
	if got := b.e.Keys(); len(got) != 0 {
		t.Error(got)
	}
	for _, x := range inBook(t, b.d) {
		if strings.Contains(x.Key, "actor") {
			t.Errorf("%q", x.Key)
		}
	}
}

// P22.6: Checkpoint changes nothing that is told, but Map.
func TestCheckpoint(t *testing.T) {
	b := laid(t)
	before := b.e.Map()
	b.want(checkpoint(), nil, api.OK)
	if after := b.e.Map(); len(after.Used) <= len(before.Used) {
		t.Errorf("%d blocks are used; before %d", len(after.Used), len(before.Used))
	}
	b.sameAll("checkpoint")
	b.nothingWritten(checkpoint())
	b.do(tick(1), checkpoint(), checkpoint())
	b.sameAll("two of them")
}

// P22.6: Actor.
func TestActor(t *testing.T) {
	b := newBoth(t, 400, 2)
	for _, key := range []string{"", strings.Repeat("a", longKey+1)} {
		if a, errno := b.e.Actor(key); a != nil || errno != api.ErrArg {
			t.Errorf("%q: %v, %v", key, a, errno)
		}
	}
	for _, key := range []string{"a", "\x00", strings.Repeat("\xff", longKey)} {
		a, errno := b.e.Actor(key)
		if errno != api.OK || a.Key() != key || !a.Fresh() {
			t.Errorf("%q: %v, %v", key, a, errno)
		}
	}
	if got := b.e.Counts(); got[cRefused] != 0 {
		t.Error("Actor's errors are counted")
	}
	if b.d.Writes() != 0 || len(b.e.Keys()) != 0 {
		t.Error("a fresh actor is kept")
	}
}

// P22.6: Keys are rising, byte by byte, and all of them.
func TestKeys(t *testing.T) {
	b := newBoth(t, 400, 1)
	keys := []string{"b", "\x00", "a", "\xff\xff", "aa", "/", "0", "actor/", "actor0", "engine/clock", strings.Repeat("a", longKey), strings.Repeat("\xff", longKey)}
	for i, key := range keys {
		b.do(offer(uint64(i), 1, key, 0))
	}
	slices.Sort(keys)
	if got := b.e.Keys(); !slices.Equal(got, keys) {
		t.Errorf("%q", got)
	}
	b.sameAll("kept")
	b.do(checkpoint())
	b.sameAll("kept in the tree")
}

// P22.6: each counter.
func TestCounts(t *testing.T) {
	b := newBoth(t, 400, 1)
	b.do(teach(program(t, "n:b", "arg 0", "jumpz 6", "push 1", "arg 0", "send 0", "jump 7", "fail")))
	want := func(counts ...uint64) {
		t.Helper()
		if got := b.e.Counts(); !slices.Equal(got, append(counts, 0)) {
			t.Errorf("%d; not %d", got, counts)
		}
	}
	want(0, 0, 0, 0, 0, 0, 0)
	b.do(offer(1, 1, "a", 0, 1), offer(1, 2, "a", 0, 0))
	want(2, 0, 0, 0, 0, 0, 0)
	b.do(pick("a"))
	want(2, 1, 0, 0, 0, 0, 0)
	b.do(pick("a"), pick("a"), pick("a"))
	want(2, 1, 3, 0, 0, 0, 0)
	b.do(relay("a"))
	want(2, 1, 3, 1, 0, 1, 0)
	b.do(setReminder(remind.Reminder{Actor: "b", Period: 1}), serve())
	want(2, 1, 3, 1, 1, 1, 0)
	b.do(offer(1, 2, "a", 0), cancel("x", ""), pardon("b"), checkpoint(), tick(0))
	want(2, 1, 3, 1, 1, 1, 0)
	b.do(teach(code.Program{Names: []string{""}}), offer(1, 1, "", 0), tick(-1), pick(""), relay(""),
		serve(), setReminder(remind.Reminder{}), pardon(""))
	want(2, 1, 3, 1, 1, 1, 8)
	// Those behind Checkpoint aren't counted.
	b.e.Actor("")
	b.do(look("c"), look("b"))
	want(2, 1, 3, 1, 1, 3, 8)
	b = b.copied(1)
	want(0, 0, 0, 0, 0, 0, 0)
}

// P22.6: Map: all blocks, each once, as the book plans them.
func TestMap(t *testing.T) {
	for _, blocks := range []int{fewestBlocks, 100, 400} {
		b := newBoth(t, blocks, 2)
		for i := range 20 {
			b.do(offer(1, uint64(i), "a", 0), tick(1))
			if i%3 == 0 {
				b.do(checkpoint())
			}
			b.do(pick("a"))
			m := b.e.Map()
			at := slices.Concat(m.Super, m.Log, m.Used, m.Free)
			slices.Sort(at)
			if len(at) != blocks || at[0] != 0 || at[blocks-1] != blocks-1 || len(slices.Compact(at)) != blocks {
				t.Fatalf("%v", m)
			}
			if !slices.Equal(m.Super, []int{0, 1}) || len(m.Log) != blocks/4 || m.Log[0] != 2 {
				t.Fatalf("%v", m)
			}
		}
	}
}
