package engine_test

import (
	"slices"
	"strings"
	"testing"

	"reeve/api"
	"reeve/remind"
)

// crowd is an engine just opened, of whose actors each way through a call has one:
// a sends to b, full has a full inbox, toFull sends to full, self sends to itself, hurt
// has poison, stuck can't do its turn, and three reminders are due, the first one s's.
func crowd(t *testing.T, resident int) *both {
	t.Helper()
	b := newBoth(t, 1000, 4)
	for i := range uint64(mostInbox) {
		b.do(offer(1, i, "full", 0))
	}
	for i, to := range []string{"b", "full", "self"} {
		from := []string{"a", "toFull", "self"}[i]
		b.do(teach(program(t, "n:"+to, "push 0", "push 0", "send 0")), offer(2, uint64(i), from, 0), pick(from))
	}
	b.do(teach(program(t, "n:b", "push 0", "push 0", "send 0")), offer(2, 4, "a", 0))
	b.do(offer(2, 5, "stuck", 0))
	for i := range uint64(mostWaiting) {
		b.do(offer(3, i, "stuck", 0), pick("stuck"))
	}
	b.do(teach(program(t, "fail")), offer(4, 1, "hurt", 0), pick("hurt"), pick("hurt"), pick("hurt"))
	b.do(teach(program(t, "n:b", "push 0", "push 0", "send 0")))
	b.do(setReminder(remind.Reminder{Actor: "s", Name: "x", Due: 1, Period: 100}),
		setReminder(remind.Reminder{Actor: "full", Name: "x", Due: 2, Period: 100}), tick(5))
	return b.copied(resident)
}

// P22.7: whom each call touches, by how far it comes.
func TestTouched(t *testing.T) {
	long := strings.Repeat("k", longKey+1)
	b := crowd(t, 9)
	for _, x := range []struct {
		calls []call
		errno api.Errno
		want  string
	}{
		{[]call{offer(9, 9, "new", 0)}, api.OK, "new"},
		{[]call{offer(9, 9, "full", 0)}, api.ErrInbox, "full"},
		{[]call{offer(2, 4, "new", 0)}, api.OK, ""},
		{[]call{offer(9, 9, "", 0)}, api.ErrArg, ""},
		{[]call{offer(9, 9, long, 0)}, api.ErrArg, ""},
		{[]call{offer(9, 9, "new", 0, 1, 2, 3, 4, 5)}, api.ErrArg, ""},
		{[]call{pick("a")}, api.OK, "a"},
		{[]call{pick("b")}, api.ErrNone, "b"},
		{[]call{pick("stuck")}, api.ErrState, "stuck"},
		{[]call{pick("")}, api.ErrArg, ""},
		{[]call{pick(long)}, api.ErrArg, ""},
		{[]call{teach(program(t, "fail")), pick("a")}, api.OK, "a"},
		{[]call{relay("a")}, api.OK, "a b"},
		{[]call{relay("toFull")}, api.ErrInbox, "toFull full"},
		{[]call{relay("self")}, api.OK, "self"},
		{[]call{relay("new")}, api.ErrNone, "new"},
		{[]call{relay("")}, api.ErrArg, ""},
		{[]call{relay(long)}, api.ErrArg, ""},
		{[]call{serve()}, api.OK, "s"},
		{[]call{serve(), serve()}, api.ErrInbox, "s full"},
		{[]call{cancel("full", "x"), serve(), serve()}, api.ErrNone, "s"},
		{[]call{pardon("hurt")}, api.OK, "hurt"},
		{[]call{pardon("new")}, api.OK, "new"},
		{[]call{pardon("")}, api.ErrArg, ""},
		{[]call{pardon(long)}, api.ErrArg, ""},
		{[]call{look("new")}, api.OK, "new"},
		{[]call{look("a"), look("b"), look("a")}, api.OK, "b a"},
		{[]call{teach(program(t, "halt"))}, api.OK, ""},
		{[]call{tick(1)}, api.OK, ""},
		{[]call{setReminder(remind.Reminder{Actor: "new", Period: 1})}, api.OK, ""},
		{[]call{cancel("s", "x")}, api.OK, ""},
		{[]call{cancel("s", "y")}, api.OK, ""},
		{[]call{checkpoint()}, api.OK, ""},
	} {
		c := b.copied(9)
		if errno := c.do(x.calls...); errno != x.errno {
			t.Errorf("%s: %v; not %v", x.calls[0].name, errno, x.errno)
		}
		if got := strings.Join(c.e.Resident(), " "); got != x.want {
			t.Errorf("%s: %q are touched; not %q", x.calls[0].name, got, x.want)
		}
	}
	c := b.copied(9)
	c.e.Actor("")
	c.e.Actor(long)
	if got := c.e.Resident(); len(got) != 0 {
		t.Errorf("%q are touched", got)
	}
	c.e.Keys()
	c.e.Map()
	if got := c.e.Resident(); len(got) != 0 {
		t.Errorf("%q are touched", got)
	}
}

// P22.7, P5: with room for one in memory a relay touches two, the one behind the other,
// and both are as they ought to be.
func TestTouchedWithRoomForOne(t *testing.T) {
	for _, at := range []string{"a", "toFull", "self"} {
		b := crowd(t, 1)
		b.do(look("hurt"))
		b.do(relay(at))
		b.sameAll("relayed from " + at)
		b.do(relay(at), relay(at), pick(at), pick("b"))
		b.sameAll("and once more")
	}
}

// P22.7: the same calls, with room for few or for many, are answered alike (P1), and who
// is in memory is at most as many as may be (P5).
func TestTouchedByMany(t *testing.T) {
	for most := 1; most <= 6; most++ {
		b := crowd(t, most)
		b.do(offer(9, 1, "a", 0), offer(9, 2, "b", 0), pick("a"), serve(), offer(9, 3, "full", 0), serve(), relay("a"),
			pardon("hurt"), relay("toFull"), pick("full"), relay("toFull"), look("s"), look("nobody"), pick("b"), relay("b"))
		if got := len(b.e.Resident()); got > most {
			t.Errorf("%d are in memory; at most %d may be", got, most)
		}
		b.sameAll("at the end")
	}
}

// P22.7: what was refused, and for whom a call did nothing, is in memory as it is kept.
func TestInMemoryAsKept(t *testing.T) {
	b := crowd(t, 9)
	b.do(relay("toFull"), pick("stuck"), offer(9, 9, "full", 0), serve(), serve())
	for _, key := range slices.Concat(b.e.Resident(), b.e.Keys()) {
		want, _ := b.m.get(key).Encode()
		if got := bytesOf(t, b.e, key); string(got) != string(want) {
			t.Errorf("%q: %x; not %x", key, got, want)
		}
		b.m.touch(key)
	}
	b.sameAll("looked at")
}
