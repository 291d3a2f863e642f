package engine

import (
	"math"

	"reeve/actor"
	"reeve/api"
	"reeve/code"
	"reeve/interp"
	"reeve/remind"
	"reeve/turn"
)

// nothing is what a call answers beside its error, if it answers nothing.
type nothing struct{}

// attempt does a call that may change something, if the engine still does any, and
// counts it, if it is answered an error.
func attempt[T any](e *Engine, call func() (T, api.Errno)) (T, api.Errno) {
	var none T
	if e.isNone() {
		return none, api.ErrArg
	}
	answer, errno := none, api.ErrLost
	if !e.over {
		answer, errno = call()
	}
	if errno != api.OK {
		e.count(refused)
		return none, errno
	}
	return answer, api.OK
}

// isNone tells whether this is no engine that Open made.
func (e *Engine) isNone() bool { return e == nil || e.book == nil }

// count raises a counter.
func (e *Engine) count(counter int) { e.counts.Add(counter, 1) }

// teach is Teach of an engine that isn't over, and so it is with those below.
func (e *Engine) teach(p code.Program) api.Errno {
	if !code.Formed(p) {
		return api.ErrArg
	}
	next := e.kept
	next.program = programOf(p)
	return e.commit(next, programAt)
}

func (e *Engine) offer(client uint64, to string, l api.Letter) (bool, api.Errno) {
	if !isKey(to) || len(l.Args) > api.MaxArgs {
		return false, api.ErrArg
	}
	if e.kept.window.Seen(client, l.Serial) {
		return false, api.OK
	}
	a := copyOf(e.bring(to))
	if errno := a.Inbox.Push(l); errno != api.OK {
		return false, errno
	}
	next := e.kept
	next.window = windowOf(e.kept.window)
	next.window.Add(client, l.Serial)
	if errno := e.commit(next, windowAt, a); errno != api.OK {
		return false, errno
	}
	e.count(offered)
	return true, api.OK
}

func (e *Engine) tick(by int64) (int64, api.Errno) {
	// The sum itself would go round and lie below 0.
	if by < 0 || by > math.MaxInt64-e.kept.clock {
		return 0, api.ErrRange
	}
	next := e.kept
	next.clock += by
	return next.clock, e.commit(next, clockAt)
}

func (e *Engine) pick(key string) (turn.Outcome, api.Errno) {
	if !isKey(key) {
		return turn.Outcome{}, api.ErrArg
	}
	a := copyOf(e.bring(key))
	o, errno := turn.Take(e.kept.program, a, e.kept.clock)
	if errno != api.OK {
		return turn.Outcome{}, errno
	}
	next, part := e.kept, ""
	if len(o.Timers) > 0 {
		next.reminders, part = queueOf(e.kept.reminders), remindersAt
	}
	if !setTimers(next.reminders, key, o.Timers) {
		return turn.Outcome{}, api.ErrState
	}
	if errno := e.commit(next, part, a); errno != api.OK {
		return turn.Outcome{}, errno
	}
	if o.Done {
		e.count(turnsDone)
	} else {
		e.count(turnsFailed)
	}
	return o, api.OK
}

// setTimers sets and cancels the actor's reminders, one behind the other; false, if there
// is no room for one of them.
func setTimers(q *remind.Queue, key string, timers []interp.Timer) bool {
	for _, t := range timers {
		if t.Cancel {
			q.Cancel(key, t.Name)
			continue
		}
		r := remind.Reminder{Actor: key, Name: t.Name, Due: t.Due, Period: t.Period, Kind: t.Kind}
		if q.Set(r) != api.OK {
			return false
		}
	}
	return true
}

func (e *Engine) relay(key string) (string, api.Errno) {
	if !isKey(key) {
		return "", api.ErrArg
	}
	from := copyOf(e.bring(key))
	first, ok := from.Outbox.Pop()
	if !ok {
		return "", api.ErrNone
	}
	// Who sends to itself is one actor, whose both ends are to be changed.
	to, changed := from, []*actor.Actor{from}
	if first.To != key {
		to = copyOf(e.bring(first.To))
		changed = append(changed, to)
	}
	if errno := to.Inbox.Push(first.Letter); errno != api.OK {
		return "", errno
	}
	if errno := e.commit(e.kept, "", changed...); errno != api.OK {
		return "", errno
	}
	e.count(relayed)
	return first.To, api.OK
}

func (e *Engine) serve() (remind.Reminder, api.Errno) {
	next := e.kept
	next.reminders = queueOf(e.kept.reminders)
	due, ok := next.reminders.Serve(e.kept.clock)
	if !ok {
		return remind.Reminder{}, api.ErrNone
	}
	a := copyOf(e.bring(due.Actor))
	if errno := a.Inbox.Push(api.Letter{Kind: due.Kind, Args: []int64{due.Due}}); errno != api.OK {
		return remind.Reminder{}, errno
	}
	if errno := e.commit(next, remindersAt, a); errno != api.OK {
		return remind.Reminder{}, errno
	}
	e.count(served)
	return due, api.OK
}

func (e *Engine) remind(r remind.Reminder) api.Errno {
	next := e.kept
	next.reminders = queueOf(e.kept.reminders)
	if errno := next.reminders.Set(r); errno != api.OK {
		return errno
	}
	return e.commit(next, remindersAt)
}

func (e *Engine) cancel(actor, name string) (bool, api.Errno) {
	next := e.kept
	next.reminders = queueOf(e.kept.reminders)
	if !next.reminders.Cancel(actor, name) {
		return false, api.OK
	}
	return true, e.commit(next, remindersAt)
}

func (e *Engine) pardon(key string) (int, api.Errno) {
	if !isKey(key) {
		return 0, api.ErrArg
	}
	a := copyOf(e.bring(key))
	many := len(a.Poison)
	if many == 0 {
		return 0, api.OK
	}
	a.Poison = nil
	return many, e.commit(e.kept, "", a)
}
