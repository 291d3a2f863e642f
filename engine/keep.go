package engine

import (
	"bytes"
	"math"

	"reeve/actor"
	"reeve/api"
	"reeve/book"
	"reeve/code"
	"reeve/codec"
	"reeve/remind"
	"reeve/window"
)

// The keys of the book. Behind actorsFrom stands an actor's own key; actorsTo is above
// all of these.
const (
	actorsFrom  = "actor/"
	actorsTo    = "actor0"
	clockAt     = "engine/clock"
	programAt   = "engine/program"
	remindersAt = "engine/reminders"
	windowAt    = "engine/window"
)

// kept is what an engine keeps beside its actors. The program, the reminders and the
// window are never changed: a call makes others of them, and these take their place once
// they lie in the book.
type kept struct {
	clock     int64
	program   code.Program
	reminders *remind.Queue
	window    *window.Window
}

// newKept is what an engine on a new disk keeps.
func newKept() kept { return kept{reminders: remind.New(), window: window.New()} }

// keptIn answers what the book's engine keeps beside its actors; false, if what lies in
// the book is no engine's.
func keptIn(b *book.Book) (kept, bool) {
	k := newKept()
	for _, key := range b.Keys("", "") {
		value, _ := b.Get(key)
		if !k.read(key, value) {
			return kept{}, false
		}
	}
	for _, at := range []string{clockAt, programAt, remindersAt, windowAt} {
		// An engine lays nothing down that a new one has.
		if _, ok := b.Get(at); ok == k.entry(at).Gone {
			return kept{}, false
		}
	}
	return k, true
}

// read takes in what the book tells at a key; false, if no engine laid it there. Of
// actors it only asks that.
func (k *kept) read(key string, value []byte) bool {
	errno := api.OK
	switch key {
	case clockAt:
		k.clock, errno = clockIn(value)
	case programAt:
		k.program, errno = code.Decode(value)
	case remindersAt:
		k.reminders, errno = remind.Decode(value)
	case windowAt:
		k.window, errno = window.Decode(value)
	default:
		return isActors(key, value)
	}
	return errno == api.OK
}

// entry is what the book should tell at the key of a part: nothing of one that is as a
// new engine has it.
func (k kept) entry(at string) api.Change {
	value := k.bytes(at)
	if bytes.Equal(value, newKept().bytes(at)) {
		return api.Change{Key: at, Gone: true}
	}
	return api.Change{Key: at, Value: value}
}

// bytes is those of the part that has this key.
func (k kept) bytes(at string) []byte {
	switch at {
	case clockAt:
		return clockBytes(k.clock)
	case programAt:
		// A program that is kept is formed, so Encode doesn't refuse it.
		b, _ := code.Encode(k.program)
		return b
	case remindersAt:
		return k.reminders.Encode()
	case windowAt:
		return k.window.Encode()
	}
	return nil
}

// entryOf is what the book should tell of an actor: nothing of one that is fresh.
func entryOf(a *actor.Actor) api.Change {
	key := actorsFrom + a.Key()
	if a.Fresh() {
		return api.Change{Key: key, Gone: true}
	}
	// The engine's calls keep an actor's limits, so Encode doesn't refuse it.
	value, _ := a.Encode()
	return api.Change{Key: key, Value: value}
}

// isActors tells whether the book tells so of an actor.
func isActors(key string, value []byte) bool {
	a, errno := actor.Decode(value)
	return errno == api.OK && !a.Fresh() && key == actorsFrom+a.Key()
}

// commit lays down all at once what a call makes of one part of what is kept, if part is
// its key and not "", and of actors. It takes that in, once it lies there.
func (e *Engine) commit(next kept, part string, changed ...*actor.Actor) api.Errno {
	var list []api.Change
	if part != "" {
		list = append(list, next.entry(part))
	}
	for _, a := range changed {
		list = append(list, entryOf(a))
	}
	if errno := e.noted(e.book.Commit(list)); errno != api.OK {
		return errno
	}
	e.kept = next
	for _, a := range changed {
		e.keep(a)
	}
	return api.OK
}

// noted takes down that the engine is over, if what the book answered was lost.
func (e *Engine) noted(errno api.Errno) api.Errno {
	e.over = e.over || errno == api.ErrLost
	return errno
}

// bring answers the actor of a key, who is in memory from now on, as the one who was
// touched last. It is not to be changed.
func (e *Engine) bring(key string) *actor.Actor {
	if gone, ok := e.touched.Touch(key); ok {
		delete(e.actors, gone)
		e.count(putAway)
	}
	a, ok := e.actors[key]
	if !ok {
		a = actorIn(e.book, key)
		e.actors[a.Key()] = a
	}
	return a
}

// keep puts the actor in the place of the one of its key, if that is still in memory:
// another one whom the same call touched may have put it away.
func (e *Engine) keep(a *actor.Actor) {
	if key := a.Key(); e.touched.Has(key) {
		e.actors[key] = a
	}
}

// actorIn answers the actor of a key as the book keeps it; a new one, if it keeps none.
func actorIn(b *book.Book, key string) *actor.Actor {
	value, ok := b.Get(actorsFrom + key)
	if !ok {
		// The calls ask for a key first, so New refuses none.
		a, _ := actor.New(key)
		return a
	}
	// Open has asked what lay there, and Commit lays down what Encode tells.
	a, _ := actor.Decode(value)
	return a
}

// clockBytes is the clock's bytes.
func clockBytes(clock int64) []byte {
	w := codec.NewWriter()
	w.Number(uint64(clock))
	return w.Bytes()
}

// clockIn makes the clock of its bytes, or answers ErrForm.
func clockIn(b []byte) (int64, api.Errno) {
	r := codec.NewReader(b)
	clock := r.Number()
	// It is asked as a number: as an integer it might be below 0.
	if !r.End() || clock > math.MaxInt64 {
		return 0, api.ErrForm
	}
	return int64(clock), api.OK
}

// programOf tells the same formed program in memory of its own. What the layers below
// have inside is theirs, so the way goes through the bytes, and so it is with those below.
func programOf(p code.Program) code.Program {
	b, _ := code.Encode(p)
	same, _ := code.Decode(b)
	return same
}

func queueOf(q *remind.Queue) *remind.Queue {
	same, _ := remind.Decode(q.Encode())
	return same
}

func windowOf(w *window.Window) *window.Window {
	same, _ := window.Decode(w.Encode())
	return same
}

func copyOf(a *actor.Actor) *actor.Actor {
	b, _ := a.Encode()
	same, _ := actor.Decode(b)
	return same
}

// isKey tells whether the text is a key.
func isKey(s string) bool { return len(s) >= 1 && len(s) <= api.MaxKey }
