package engine_test

import (
	"fmt"
	"math"
	"math/rand"
	"strings"
	"testing"

	"reeve/code"
	"reeve/remind"
)

// chance makes calls by chance, and always the same ones of one seed.
type chance struct {
	*rand.Rand
	keys     []string
	programs []code.Program
}

func newChance(t *testing.T, seed int64, keys ...string) *chance {
	t.Helper()
	list := []code.Program{
		{},
		adder(t),
		sender(t),
		program(t, "n:b", "n:c", "arg 0", "store 0", "push 3", "load 0", "send 0", "push 4", "load 0", "send 1", "push 5", "load 0", "reply"),
		program(t, "n:x", "n:y", "arg 0", "jumpz 7", "push 3", "push 5", "remind 0", "cancel 1", "halt", "push 2", "push 2", "remind 1", "cancel 0"),
		program(t, "n:a", "n:actor0", "arg 0", "jumpz 7", "push 1", "arg 0", "push 1", "sub", "send 0", "fail", "push 1", "push 0", "send 1"),
		program(t, "serial", "store 5", "now", "store 6", "kind", "jumpz 7", "fail", "jump 7", "arg 1", "store 7"),
	}
	return &chance{rand.New(rand.NewSource(seed)), keys, list}
}

func (c *chance) key() string {
	if c.Intn(60) == 0 {
		return []string{"", strings.Repeat("k", longKey+1)}[c.Intn(2)]
	}
	return c.keys[c.Intn(len(c.keys))]
}

func (c *chance) args() []int64 {
	many := c.Intn(mostArgs + 1)
	if c.Intn(60) == 0 {
		many = mostArgs + 1
	}
	list := make([]int64, many)
	for i := range list {
		list[i] = c.Int63n(5)
		if c.Intn(20) == 0 {
			list[i] = math.MinInt64
		}
	}
	return list
}

func (c *chance) program() code.Program {
	if c.Intn(10) == 0 {
		return code.Program{Code: []code.Instr{{Op: 99}}}
	}
	return c.programs[c.Intn(len(c.programs))]
}

func (c *chance) reminder() remind.Reminder {
	r := remind.Reminder{Actor: c.key(), Name: []string{"x", "y", "", strings.Repeat("n", longKey)}[c.Intn(4)],
		Due: c.Int63n(100) - 3, Period: c.Int63n(20), Kind: c.Int63n(3)}
	if c.Intn(60) == 0 {
		r.Name += strings.Repeat("n", longKey+1)
	}
	return r
}

// call is one of all calls.
func (c *chance) call() call {
	switch n := c.Intn(100); {
	case n < 28:
		return offer(uint64(c.Intn(70)), uint64(c.Intn(8)), c.key(), c.Int63n(3), c.args()...)
	case n < 58:
		return pick(c.key())
	case n < 74:
		return relay(c.key())
	case n < 80:
		return serve()
	case n < 84:
		return setReminder(c.reminder())
	case n < 86:
		return cancel(c.key(), []string{"x", "y", ""}[c.Intn(3)])
	case n < 88:
		return pardon(c.key())
	case n < 92:
		return teach(c.program())
	case n < 95:
		return tick(c.Int63n(6) - 1)
	case n < 98:
		return checkpoint()
	}
	return look(c.keys[c.Intn(len(c.keys))])
}

// P1 and P22.1 to P22.7: long histories are answered as the chapter tells, with room for
// few or for many in memory, and behind an Open too.
func TestHistories(t *testing.T) {
	keys := []string{"a", "b", "c", "actor", "actor0", "\x00", strings.Repeat("k", longKey)}
	for seed := range int64(12) {
		resident := []int{1, 2, 3, 20}[seed%4]
		b := newBoth(t, 600, resident)
		c := newChance(t, seed, keys...)
		for i := range 600 {
			b.do(c.call())
			switch {
			case i%20 == 1:
				b.lasts(fmt.Sprintf("seed %d, call %d", seed, i))
			case i%211 == 210:
				b = b.copied(resident)
			}
		}
		b.sameAll(fmt.Sprintf("seed %d, at the end", seed))
	}
}

// P3: each letter that was accepted waits or was taken by one turn; those that an actor
// sends come in once, in their order.
func TestEachLetterOnce(t *testing.T) {
	b := newBoth(t, 600, 1)
	b.do(teach(program(t, "n:b", "kind", "jumpz 3", "halt", "push 1", "arg 0", "send 0")))
	c := newChance(t, 5, "a", "c", "d")
	offers, turns, came := 0, map[string]int{}, map[string][]uint64{}
	for i := range 400 {
		if ok, _ := b.e.Offer(uint64(c.Intn(9)), uint64(i/3), c.key(), 0, []int64{1}); ok {
			offers++
		}
		key := c.keys[c.Intn(3)]
		if o, _ := b.e.Pick(key); o.Done {
			turns[key]++
		}
		b.e.Relay(c.keys[c.Intn(3)])
		if i%4 == 0 {
			continue
		}
		a, _ := b.e.Actor("b")
		if first, ok := a.Inbox.First(); ok {
			came[first.From] = append(came[first.From], first.Serial)
			b.e.Pick("b")
		}
	}
	inB, _ := b.e.Actor("b")
	for _, l := range inB.Inbox.All() {
		came[l.From] = append(came[l.From], l.Serial)
	}
	for _, key := range c.keys {
		a, _ := b.e.Actor(key)
		offers -= a.Inbox.Len() + turns[key]
		if sent := turns[key] - len(a.Outbox.All()); sent == 0 || len(came[key]) != sent {
			t.Errorf("%q: %d have come of %d", key, len(came[key]), sent)
		}
		for i, serial := range came[key] {
			if serial != uint64(i+1) {
				t.Fatalf("%q: %d", key, came[key])
			}
		}
	}
	if offers != 0 {
		t.Errorf("%d letters are neither taken nor wait", offers)
	}
}
