package engine

import (
	"fmt"
	"slices"
	"testing"
	"unsafe"

	"reeve/api"
	"reeve/code"
	"reeve/disk"
)

// wantInMemory asks that those who are in memory are just those whom Resident tells.
func wantInMemory(t *testing.T, e *Engine) {
	t.Helper()
	list := e.Resident()
	if len(e.actors) != len(list) {
		t.Errorf("%d actors are in memory; not %q", len(e.actors), list)
	}
	for _, key := range list {
		if a := e.actors[key]; a.Key() != key {
			t.Errorf("%q isn't in memory", key)
		}
	}
}

// P5: no more actors are in memory than may be, whoever a call touches.
func TestAtMostAsManyInMemory(t *testing.T) {
	for most := 1; most <= 3; most++ {
		e, errno := Open(disk.New(400), most)
		if errno != api.OK {
			t.Fatal(errno)
		}
		e.Teach(code.Program{Names: []string{"b"}, Code: []code.Instr{{Op: 1}, {Op: 1}, {Op: 17}}})
		for i := range uint64(8) {
			for _, key := range []string{"a", "b", "c"} {
				e.Offer(i, i, fmt.Sprint(key, i%3), 0, nil)
				e.Offer(i, i+100, key, 0, nil)
				e.Pick(key)
				wantInMemory(t, e)
				e.Relay(key)
				wantInMemory(t, e)
			}
		}
		if errno := e.Checkpoint(); errno != api.OK {
			t.Error(errno)
		}
		wantInMemory(t, e)
	}
}

// R3: who is in memory is so by a key of its own, not by the one that was handed in.
func TestKeysInMemoryAreTheirOwn(t *testing.T) {
	e, _ := Open(disk.New(400), 3)
	text := []byte("actor")
	key := unsafe.String(&text[0], len(text))
	e.Actor(key)
	copy(text, "other")
	wantInMemory(t, e)
	e.Actor("actor")
	wantInMemory(t, e)
	if got := e.Resident(); !slices.Equal(got, []string{"actor"}) {
		t.Errorf("%q", got)
	}
}
