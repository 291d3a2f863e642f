package engine_test

import (
	"fmt"
	"slices"
	"strings"
	"testing"

	"reeve/api"
	"reeve/code"
	"reeve/engine"
	"reeve/remind"
)

// everyKind is a call of each kind with wrong arguments, if it has any, one that has nothing
// to do, and one that has.
func everyKind(t *testing.T) []call {
	t.Helper()
	return []call{
		teach(code.Program{Names: []string{""}}), offer(9, 9, "", 1), tick(-1), pick(""), relay(""),
		setReminder(remind.Reminder{}), pardon(""),
		offer(2, 4, "z", 0), cancel("s", "none"), pardon("z"), tick(0), checkpoint(),
		teach(adder(t)), offer(9, 9, "z", 1), tick(1), pick("a"), relay("a"), serve(),
		setReminder(remind.Reminder{Actor: "z", Period: 1}), cancel("s", "x"), pardon("hurt"),
	}
}

// isZeroBeside makes the call: what it answers, and whether that is this error alone.
func isZeroBeside(x call, e *engine.Engine, errno api.Errno) (string, bool) {
	got, _ := x.on(e)
	for _, zero := range []string{"<nil>", "false", "0", "", fmt.Sprint(remind.Reminder{}), "{false false reeve: error 0 0 []}"} {
		if got == fmt.Sprintf("%q, %d", zero, errno) {
			return got, true
		}
	}
	return got, false
}

// wantOver asks that each call of an engine that is over answers ErrLost ahead of all
// else, touches nobody, is counted, and changes nothing that is told or lies there.
func (b *both) wantOver(what string) {
	b.t.Helper()
	before, m := kept(b.e), b.e.Map()
	writes, resident, counts := b.d.Writes(), b.e.Resident(), b.e.Counts()
	for _, x := range everyKind(b.t) {
		if got, ok := isZeroBeside(x, b.e, api.ErrLost); !ok {
			b.t.Errorf("%s: %s: %s; not lost", what, x.name, got)
		}
		counts[cRefused]++
	}
	if got := kept(b.e); got != before || !sameMap(b.e.Map(), m) {
		b.t.Errorf("%s: over, and changed: %s; not %s", what, got, before)
	}
	if b.d.Writes() != writes || !slices.Equal(b.e.Resident(), resident) || !slices.Equal(b.e.Counts(), counts) {
		b.t.Errorf("%s: over, and %d writes, %q, %d; not %d", what, b.d.Writes()-writes, b.e.Resident(), b.e.Counts(), counts)
	}
}

// lose makes the call on a copy, with a fuse of that many writes; false, if it isn't lost.
// If it is, all but who is in memory and the counters is as ahead of it, and an Open
// behind the restart tells it wholly or not at all.
func (b *both) lose(x call, fuse int) bool {
	b.t.Helper()
	c := b.copied(4)
	c.do(look("a"), look("hurt"))
	before, m, counts := kept(c.e), c.e.Map(), c.e.Counts()
	c.d.SetFuse(fuse)
	got, ok := isZeroBeside(x, c.e, api.ErrLost)
	if !ok {
		c.d.Restart()
		return false
	}
	what := fmt.Sprintf("%s, lost behind %d writes", x.name, fuse)
	if now := kept(c.e); now != before || !sameMap(c.e.Map(), m) {
		b.t.Fatalf("%s: %s: %s; not %s", what, got, now, before)
	}
	after := c.e.Counts()
	counts[cPutAway] = after[cPutAway]
	counts[cRefused]++
	if !slices.Equal(after, counts) {
		b.t.Errorf("%s: %d; not %d", what, after, counts)
	}
	c.wantOver(what)
	// Restarting the disk doesn't bring the engine back.
	c.d.Restart()
	c.wantOver(what + ", and restarted")
	for _, key := range c.e.Resident() {
		want, _ := b.m.get(key).Encode()
		wantText(b.t, what+": "+key, fmt.Sprint(bytesOf(b.t, c.e, key)), fmt.Sprint(want))
	}
	wantText(b.t, what, all(b.t, c.e), all(b.t, b.m.opened(4)))
	done := b.m.opened(4)
	x.on(done)
	again := mustOpen(b.t, c.d, 4)
	if now := all(b.t, again); now != all(b.t, b.m.opened(4)) && now != all(b.t, done) {
		b.t.Fatalf("%s: %s; neither all nor nothing", what, now)
	}
	return true
}

// P22.2, P2: each call that writes, lost at each of its writes.
func TestLost(t *testing.T) {
	b := crowd(t, 4)
	for _, x := range everyKind(t) {
		c := b.copied(4)
		writes := c.d.Writes()
		x.on(c.e)
		writes = c.d.Writes() - writes
		for fuse := range writes {
			if !b.lose(x, fuse) {
				t.Errorf("%s, with a fuse of %d: isn't lost", x.name, fuse)
			}
		}
		if b.lose(x, writes) {
			t.Errorf("%s, with a fuse of %d: is lost", x.name, writes)
		}
	}
}

// P22.2: a call that is lost touches as if it weren't.
func TestLostTouches(t *testing.T) {
	for _, x := range []struct {
		call call
		want string
	}{
		{offer(9, 9, "z", 0), "z"}, {pick("a"), "a"}, {relay("a"), "a b"}, {relay("self"), "self"}, {serve(), "s"},
		{pardon("hurt"), "hurt"}, {tick(1), ""}, {teach(code.Program{}), ""}, {checkpoint(), ""},
	} {
		b := crowd(t, 4)
		b.d.SetFuse(0)
		if _, errno := x.call.on(b.e); errno != api.ErrLost {
			t.Errorf("%s: %v", x.call.name, errno)
		}
		if got := strings.Join(b.e.Resident(), " "); got != x.want {
			t.Errorf("%s: %q; not %q", x.call.name, got, x.want)
		}
		// Actor is no call that may be lost: it touches on.
		if a, errno := b.e.Actor("full"); errno != api.OK || a.Inbox.Len() != mostInbox {
			t.Errorf("%s: Actor: %v", x.call.name, errno)
		}
		if got := strings.TrimSpace(x.want + " full"); strings.Join(b.e.Resident(), " ") != got {
			t.Errorf("%s: %q; not %q", x.call.name, b.e.Resident(), got)
		}
	}
}

// P22.2: a disk that is down loses nobody who writes nothing; such a call's own errors
// come ahead of ErrLost, as long as none was lost.
func TestDownButNotOver(t *testing.T) {
	b := crowd(t, 4)
	b.d.SetFuse(0)
	b.d.Write(0, make([]byte, api.BlockSize))
	for _, x := range everyKind(t) {
		want, _ := x.on(b.m)
		if got, errno := x.on(b.e); errno == api.ErrLost {
			// It wrote, and was lost: another engine goes on.
			c := crowd(t, 4)
			c.d.SetFuse(0)
			c.d.Write(0, make([]byte, api.BlockSize))
			b.e, b.m, b.d = c.e, c.m, c.d
		} else if got != want {
			t.Errorf("%s: %s; not %s", x.name, got, want)
		}
	}
	for _, x := range []call{offer(2, 4, "z", 0), offer(9, 9, "full", 0), pick("b"), pick("stuck"), relay("z"), relay("toFull"),
		cancel("s", "none"), pardon("z"), tick(-1), pick(""), teach(code.Program{Names: []string{""}})} {
		b.do(x)
	}
}

// P22.2, P2: calls that find no room in the log, and so make a checkpoint first, lost at
// each write.
func TestLostBehindACheckpoint(t *testing.T) {
	b := newBoth(t, 60, 4)
	b.do(teach(sender(t)))
	c := newChance(t, 3, "a", "b", "hurt")
	many := 0
	for i := 0; many < 6; i++ {
		x := c.call()
		before := b.copied(4)
		writes := b.d.Writes()
		pending := len(b.e.Map().Used)
		b.do(x)
		writes = b.d.Writes() - writes
		if len(b.e.Map().Used) == pending && i%25 > 0 {
			continue
		}
		many++
		for fuse := range writes {
			if !before.lose(x, fuse) {
				t.Errorf("%s, with a fuse of %d of %d: isn't lost", x.name, fuse, writes)
			}
		}
	}
}

// P2: a history that is cut behind each of its writes, and opened.
func TestCuts(t *testing.T) {
	for seed := range int64(3) {
		b := newBoth(t, 80, 2)
		c := newChance(t, seed, "a", "b")
		ends, states := []int{0}, []string{all(t, b.m.opened(1))}
		for range 120 {
			b.do(c.call())
			ends, states = append(ends, b.d.Writes()), append(states, all(t, b.m.opened(1)))
		}
		call := 0
		for n := range b.d.Writes() + 1 {
			for call+1 < len(ends) && ends[call+1] <= n {
				call++
			}
			got := all(t, mustOpen(t, b.d.Cut(n), 3))
			// What is laid behind all of the calls' writes is theirs alone.
			if got != states[call] && (n == ends[call] || got != states[call+1]) {
				t.Fatalf("seed %d, cut behind %d writes, in call %d: %s; not %s", seed, n, call, got, states[call])
			}
		}
	}
}

// P2: a disk is opened, cut, and opened again: an Open writes nothing that could be cut.
func TestCutsWithinTheRecovery(t *testing.T) {
	b := crowd(t, 4)
	want := all(t, b.m.opened(1))
	for range 3 {
		b.d.SetFuse(0)
		b.e.Tick(1)
		b.d.Restart()
		b.d.SetFuse(0)
		e := mustOpen(t, b.d, 4)
		if got := all(t, e); got != want {
			t.Fatalf("%s; not %s", got, want)
		}
		b.e = e
	}
}

// P22.2: ErrFull, if the book is full: nothing has changed but who is in memory, and the
// counters; and the engine goes on.
func TestFull(t *testing.T) {
	b := newBoth(t, 40, 3)
	b.do(teach(program(t, "n:"+strings.Repeat("t", longKey), "push 1", "push 9", "send 0", "push 9", "push 9", "remind 0")))
	long := func(i int) string { return fmt.Sprintf("%c%s", 'a'+i, strings.Repeat("k", longKey-1)) }
	b.do(offer(1, 1, long(0), 0), offer(1, 2, long(0), 0), pick(long(0)))
	many := code.Program{Code: slices.Repeat([]code.Instr{{Op: 1, Arg: -1 << 63}}, 200)}
	r := remind.Reminder{Actor: "other", Due: 0, Period: 1}
	b.do(setReminder(r), setReminder(remind.Reminder{Actor: "other", Name: "late", Due: 5, Period: 1}))
	serial := uint64(2)
	// Each kind of offer lays less than the one ahead of it.
	for _, next := range []func(i int) call{
		func(i int) call { return offer(1, serial, long(i), 0, -1<<63, -1<<63, -1<<63, -1<<63) },
		func(i int) call { return offer(1, serial, long(i), 0) },
		func(i int) call { return offer(1, serial, fmt.Sprint(i), 0) },
		func(i int) call { return offer(1, serial, fmt.Sprint(i/4), 0) },
	} {
		for i := 1; ; i++ {
			serial++
			if c := b.copied(3); c.full1(next(i)) {
				break
			}
			b.do(next(i))
		}
	}
	b.sameAll("almost full")
	// Each of these makes the book more than it can be.
	for _, x := range []call{
		teach(many),
		offer(1, 99, long(20), 0, -1<<63, -1<<63, -1<<63, -1<<63),
		pick(long(1)),
		relay(long(0)),
		serve(),
		setReminder(remind.Reminder{Actor: long(9), Name: long(9), Due: 1 << 62, Period: 1 << 62}),
	} {
		c := b.copied(2)
		if !c.full1(x) {
			t.Errorf("%s: the book isn't full", x.name)
		}
		c.do(offer(1, b.e.Serials(1)[0], "z", 0), tick(-1), cancel("nobody", ""))
		c.sameAll("full: " + x.name)
		if !c.full1(x) {
			t.Errorf("%s: the book isn't full", x.name)
		}
		c.do(checkpoint(), cancel("other", ""), cancel("other", "late"), teach(code.Program{}), tick(1))
		c.sameAll("going on: " + x.name)
	}
}

// full1 makes a call that ought to be answered ErrFull, and asks what that leaves; false,
// if it isn't answered so.
func (b *both) full1(x call) bool {
	b.t.Helper()
	before, m, writes := kept(b.e), b.e.Map(), b.d.Writes()
	_, ok := isZeroBeside(x, b.e, api.ErrFull)
	if !ok {
		return false
	}
	if got := kept(b.e); got != before || !sameMap(b.e.Map(), m) || b.d.Writes() != writes {
		b.t.Errorf("%s: full, and changed: %s; not %s", x.name, got, before)
	}
	// The model is never full: it only takes over who is in memory, and what is counted.
	again := b.m.opened(b.m.most)
	again.resident, again.counts = slices.Clone(b.m.resident), b.m.counts
	again.counts[cRefused]++
	x.on(b.m)
	again.resident, again.counts[cPutAway] = b.m.resident, b.m.counts[cPutAway]
	b.m = again
	b.same(x.name + ", full")
	return true
}

// load makes the actor of that number as long as one can be: eight letters wait with
// all their arguments, 32 of the longest are on their way to 64 targets, eight are
// poison, and the registers and events are of the longest numbers.
func (b *both) load(i int) {
	b.t.Helper()
	key := utmost(i)
	long := []int64{-1 << 63, -1 << 63, -1 << 63, -1 << 63}
	serial := uint64(1<<63) + uint64(1000*i)
	step := func(p code.Program) {
		serial++
		b.fine(teach(p), offer(uint64(i), serial, key, -1<<63, long...), pick(key))
	}
	for first := 0; first < mostTargets; first += 4 {
		step(sendsTo(b.t, first))
		if first < mostTargets/2 {
			b.fine(teach(code.Program{}))
			for to := first; to < first+4; to++ {
				b.fine(relay(key), pick(utmost(100+to)))
			}
		}
	}
	step(program(b.t, slices.Repeat([]string{"push -9223372036854775808", "store 0", "push -9223372036854775808", "store 7"}, 8)...))
	step(program(b.t, "arg 0", "store 0", "arg 0", "store 1", "arg 0", "store 2", "arg 0", "store 3", "arg 0", "store 4",
		"arg 0", "store 5", "arg 0", "store 6", "arg 0", "store 7"))
	step(program(b.t, slices.Repeat([]string{"push -9223372036854775808", "store 0"}, 16)...))
	for range mostInbox {
		step(program(b.t, "fail"))
		b.fine(pick(key), pick(key))
	}
	for range mostInbox {
		serial++
		b.fine(offer(uint64(i), serial, key, -1<<63, long...))
	}
	b.fine(pick(key))
}

// utmost is the longest key of a number.
func utmost(i int) string { return fmt.Sprintf("%0*d", longKey, i) }

// sendsTo sends four letters of the longest numbers, to targets from the first one on.
func sendsTo(t *testing.T, first int) code.Program {
	t.Helper()
	var names, lines []string
	for i := range 4 {
		names = append(names, "n:"+utmost(100+first+i))
		lines = append(lines, "push -9223372036854775808", "push -9223372036854775808", fmt.Sprintf("send %d", i))
	}
	return program(t, append(names, lines...)...)
}

// fine makes calls that are answered OK.
func (b *both) fine(calls ...call) {
	b.t.Helper()
	for _, x := range calls {
		if got, errno := x.on(b.e); errno != api.OK {
			b.t.Fatalf("%s: %s", x.name, got)
		}
		x.on(b.m)
	}
}

// P22.8: on 8000 blocks there is room for 16 actors, whatever they have.
func TestRoomForSixteen(t *testing.T) {
	b := newBoth(t, 8000, 16)
	for i := range 15 {
		b.load(i)
	}
	if got := len(b.e.Keys()); got != 15 {
		t.Fatalf("%d actors: %q", got, b.e.Keys())
	}
	longest := 0
	for _, x := range inBook(t, b.d) {
		longest = max(longest, len(x.Value))
	}
	t.Logf("the longest actor has %d bytes", longest)
	for i := range uint64(mostClients) {
		for serial := range uint64(mostSerials) {
			b.fine(offer(1<<63+i, 1<<63+serial, "last", 0))
			b.fine(teach(code.Program{}), pick("last"))
		}
	}
	for i := range mostReminders {
		b.fine(setReminder(remind.Reminder{Actor: utmost(0), Name: utmost(i), Due: 1 << 62, Period: 1 << 62, Kind: -1 << 63}))
	}
	var names []string
	for range 8 {
		names = append(names, utmost(0))
	}
	b.fine(teach(code.Program{Names: names, Code: slices.Repeat([]code.Instr{{Op: 1, Arg: -1 << 63}}, 200)}))
	b.fine(tick(1<<62), checkpoint(), offer(1, 1, "last", 0), checkpoint(), tick(1), tick(0))
	b.sameAll("16 actors")
}
