package turn_test

import (
	"fmt"
	"maps"
	"math"
	"math/rand"
	"reflect"
	"slices"
	"strconv"
	"strings"
	"testing"
	"unsafe"

	"reeve/actor"
	"reeve/api"
	"reeve/code"
	"reeve/codec"
	"reeve/inbox"
	"reeve/interp"
	"reeve/journal"
	"reeve/outbox"
	"reeve/turn"
)

// The limits, as DOC.md and the chapters tell them.
const (
	longKey     = 40
	mostArgs    = 4
	mostNames   = 8
	mostCode    = 200
	mostInbox   = 8
	mostPoison  = mostInbox
	lastTry     = 3
	mostEmit    = 4
	mostWaiting = 32
	mostTargets = 64
	mostEvents  = 16
	budget      = 500
)

func TestLimitsAreTheDocuments(t *testing.T) {
	if api.MaxKey != longKey || api.MaxArgs != mostArgs || api.MaxNames != mostNames || api.MaxCode != mostCode ||
		api.MaxInbox != mostInbox || api.MaxPoison != lastTry || api.MaxEmit != mostEmit || api.MaxWaiting != mostWaiting ||
		api.MaxEvents != mostEvents || api.TurnBudget != budget {
		t.Error("a limit is another one")
	}
}

// told is all that an actor has, with nil for lists of no elements.
type told struct {
	key     string
	version uint64
	base    [8]int64
	state   [8]int64
	events  []journal.Event
	inbox   []api.Letter
	outbox  []outbox.Out
	serials map[string]uint64
	tries   int
	poison  []api.Letter
}

// tell asks an actor for all of it, in memory of its own.
func tell(a *actor.Actor) told {
	x := told{
		key: a.Key(), version: a.Journal.Version(), base: a.Journal.Base(), state: a.Journal.State(),
		events: noneIsNil(a.Journal.Events()), inbox: plain(a.Inbox.All()), outbox: noneIsNil(a.Outbox.All()),
		serials: serials(a.Outbox), tries: a.Tries, poison: plain(a.Poison),
	}
	for at := range x.outbox {
		x.outbox[at].Letter = plain([]api.Letter{x.outbox[at].Letter})[0]
	}
	return x
}

// serials reads the last serials from the outbox's bytes, since no call lists them.
func serials(o *outbox.Outbox) map[string]uint64 {
	all := map[string]uint64{}
	r := codec.NewReader(o.Encode())
	r.Text()
	for range r.Number() {
		key := r.Text()
		all[key] = r.Number()
	}
	return all
}

func noneIsNil[T any](list []T) []T {
	if len(list) == 0 {
		return nil
	}
	return list
}

// plain is the same letters in memory of their own, with nil for no elements.
func plain(list []api.Letter) []api.Letter {
	list = noneIsNil(slices.Clone(list))
	for at := range list {
		list[at].Args = noneIsNil(slices.Clone(list[at].Args))
	}
	return list
}

// wantTold holds all that an actor has against what it should have.
func wantTold(t *testing.T, what string, a *actor.Actor, want told) {
	t.Helper()
	if x := tell(a); !reflect.DeepEqual(x, want) {
		t.Errorf("%s: told is\n%v; not\n%v", what, x, want)
	}
}

// after is the actor that a run that halted makes of this one, and whether its outbox
// takes all; without room nothing of it means anything.
func (x told) after(r interp.Result) (told, bool) {
	x.inbox, x.tries, x.state = noneIsNil(slices.Clone(x.inbox[1:])), 0, r.State
	x.version += uint64(len(r.Events))
	all := slices.Concat(x.events, r.Events)
	for ; len(all) > mostEvents; all = all[1:] {
		x.base[all[0].Register] = all[0].Value
	}
	x.events = noneIsNil(all)
	x.serials, x.outbox = maps.Clone(x.serials), slices.Clone(x.outbox)
	for _, s := range r.Sent {
		last := x.serials[s.To]
		if len(x.outbox) == mostWaiting || last == math.MaxUint64 || last == 0 && len(x.serials) == mostTargets {
			return told{}, false
		}
		x.serials[s.To] = last + 1
		l := api.Letter{From: x.key, Serial: last + 1, Kind: s.Kind, Args: []int64{s.Arg}}
		x.outbox = append(x.outbox, outbox.Out{To: s.To, Letter: l})
	}
	return x, true
}

// expect is what Take should answer over a whole actor, a formed program and a tick, and
// what the actor has then.
func expect(p code.Program, x told, now int64) (turn.Outcome, api.Errno, told) {
	if len(x.inbox) == 0 {
		return turn.Outcome{}, api.ErrNone, x
	}
	r, e := interp.Run(p, x.state, x.inbox[0], now)
	if e == api.OK {
		next, ok := x.after(r)
		if !ok {
			return turn.Outcome{}, api.ErrState, x
		}
		return turn.Outcome{Done: true, Steps: r.Steps, Timers: r.Timers}, api.OK, next
	}
	o, next := turn.Outcome{Failed: e, Steps: r.Steps}, x
	next.tries++
	if next.tries < lastTry {
		return o, api.OK, next
	}
	if len(x.poison) == mostPoison {
		return turn.Outcome{}, api.ErrState, x
	}
	o.Poisoned = true
	next.tries = 0
	next.inbox, next.poison = noneIsNil(slices.Clone(x.inbox[1:])), slices.Concat(x.poison, x.inbox[:1])
	return o, api.OK, next
}

// same tells whether two outcomes are alike; lists of no elements are.
func same(a, b turn.Outcome) bool {
	return a.Done == b.Done && a.Poisoned == b.Poisoned && a.Failed == b.Failed && a.Steps == b.Steps && slices.Equal(a.Timers, b.Timers)
}

// take takes a turn, holds it against what is expected, and answers what Take did.
func take(t *testing.T, p code.Program, a *actor.Actor, now int64) (turn.Outcome, api.Errno) {
	t.Helper()
	want, wantE, next := expect(p, tell(a), now)
	got, e := turn.Take(p, a, now)
	if e != wantE || !same(got, want) {
		t.Errorf("%v at %d: %v, %v; not %v, %v", p, now, got, e, want, wantE)
	}
	wantTold(t, "behind the turn", a, next)
	return got, e
}

// wantDone takes a turn that is to be done, and answers its steps and timers.
func wantDone(t *testing.T, p code.Program, a *actor.Actor, now int64) (int, []interp.Timer) {
	t.Helper()
	o, e := take(t, p, a, now)
	if e != api.OK || !o.Done || o.Poisoned || o.Failed != api.OK {
		t.Errorf("%v isn't done: %v, %v", p, o, e)
	}
	return o.Steps, o.Timers
}

// wantFailed takes a turn that is to fail so.
func wantFailed(t *testing.T, p code.Program, a *actor.Actor, poisoned bool, why api.Errno, steps int) {
	t.Helper()
	o, e := take(t, p, a, 0)
	if e != api.OK || !reflect.DeepEqual(o, turn.Outcome{Poisoned: poisoned, Failed: why, Steps: steps}) {
		t.Errorf("%v: %v, %v; not failed by %v with %d steps, poisoned %v", p, o, e, why, steps, poisoned)
	}
}

// wantError takes a turn that is to answer an error, twice, since nothing has changed.
func wantError(t *testing.T, what string, p code.Program, a *actor.Actor, now int64, want api.Errno) {
	t.Helper()
	for range 2 {
		was := tell(a)
		if o, e := turn.Take(p, a, now); e != want || !reflect.DeepEqual(o, turn.Outcome{}) {
			t.Errorf("%s: %v, %v; not %v", what, o, e, want)
		}
		wantTold(t, what, a, was)
	}
}

// parse makes a program of lines, parted by blanks and commas: "push 1, add".
func parse(t *testing.T, parts ...string) code.Program {
	t.Helper()
	text := strings.Join(slices.DeleteFunc(parts, func(s string) bool { return s == "" }), ", ")
	p, line, e := code.Parse(strings.ReplaceAll(text, ", ", "\n"))
	if e != api.OK {
		t.Fatalf("%q: line %d: %v", text, line, e)
	}
	return p
}

// sends is lines that send so many letters to the first name, of the kinds 1, 2 and so on.
func sends(count int) string {
	var list []string
	for at := range count {
		list = append(list, fmt.Sprintf("push %d, push %d, send 0", at+1, 10*(at+1)))
	}
	return strings.Join(list, ", ")
}

func mustNew(t *testing.T, key string) *actor.Actor {
	t.Helper()
	a, e := actor.New(key)
	if e != api.OK {
		t.Fatalf("New(%q): %v", key, e)
	}
	return a
}

// push, send and add do to the actor's parts what these must not refuse.

func push(t *testing.T, a *actor.Actor, list ...api.Letter) {
	t.Helper()
	for _, l := range list {
		if e := a.Inbox.Push(l); e != api.OK {
			t.Fatalf("Push(%v): %v", l, e)
		}
	}
}

func send(t *testing.T, a *actor.Actor, to string) {
	t.Helper()
	if _, e := a.Outbox.Send(to, 99, []int64{5, 6}); e != api.OK {
		t.Fatalf("Send to %q: %v", to, e)
	}
}

func add(t *testing.T, a *actor.Actor, list ...journal.Event) {
	t.Helper()
	if e := a.Journal.Add(list); e != api.OK {
		t.Fatalf("Add(%v): %v", list, e)
	}
}

// someLetters are formed letters, as many as asked for, each another one.
func someLetters(count int) []api.Letter {
	kinds := []api.Letter{
		{From: "a", Kind: 5, Args: []int64{-1}},
		{},
		{From: strings.Repeat("k", longKey), Kind: math.MinInt64, Args: []int64{1, 2, math.MaxInt64, math.MinInt64}},
		{From: "\x00\xff", Kind: math.MaxInt64, Args: []int64{0, 124}},
	}
	var list []api.Letter
	for at := range count {
		l := kinds[at%len(kinds)]
		l.Serial = uint64(at + 1)
		list = append(list, l)
	}
	return plain(list)
}

// some is an actor that has something of all, and three letters that wait.
func some(t *testing.T) *actor.Actor {
	t.Helper()
	a := mustNew(t, "me")
	add(t, a, journal.Event{Register: 3, Value: 9}, journal.Event{Register: 0, Value: -1})
	push(t, a, someLetters(3)...)
	send(t, a, "b")
	send(t, a, "c")
	a.Outbox.Pop()
	a.Tries = 1
	a.Poison = someLetters(2)
	return a
}

// The chapter's example.
func TestExample(t *testing.T) {
	a := mustNew(t, "a")
	l := api.Letter{From: "b", Serial: 7, Kind: 3, Args: []int64{4}}
	push(t, a, l)
	for at := range 3 {
		wantFailed(t, parse(t, "fail"), a, at == 2, api.ErrRefused, 1)
		if a.Tries != []int{1, 2, 0}[at] || a.Inbox.Len() != []int{1, 1, 0}[at] || len(a.Poison) != []int{0, 0, 1}[at] {
			t.Errorf("behind turn %d: %d tries, %d wait, %d are poison", at+1, a.Tries, a.Inbox.Len(), len(a.Poison))
		}
	}
	if !reflect.DeepEqual(a.Poison, []api.Letter{l}) {
		t.Errorf("the poison is %v", a.Poison)
	}
}

// P20.1: ErrArg.

func TestActorsThatEncodeRefuses(t *testing.T) {
	programs := []code.Program{{}, parse(t, "push 1, store 0"), parse(t, "fail"), parse(t, "jump 0"), parse(t, "name 62", sends(4))}
	for what, spoil := range map[string]func(a *actor.Actor){
		"all is nil":                    func(a *actor.Actor) { *a = actor.Actor{} },
		"no journal":                    func(a *actor.Actor) { a.Journal = nil },
		"no inbox":                      func(a *actor.Actor) { a.Inbox = nil },
		"no inbox, no tries":            func(a *actor.Actor) { a.Inbox, a.Tries = nil, 0 },
		"no outbox":                     func(a *actor.Actor) { a.Outbox = nil },
		"nobody's outbox":               func(a *actor.Actor) { a.Outbox = &outbox.Outbox{} },
		"tries below 0":                 func(a *actor.Actor) { a.Tries = -1 },
		"tries far below 0":             func(a *actor.Actor) { a.Tries = math.MinInt },
		"three tries":                   func(a *actor.Actor) { a.Tries = lastTry },
		"far too many tries":            func(a *actor.Actor) { a.Tries = math.MaxInt },
		"a try without a letter":        func(a *actor.Actor) { a.Inbox, a.Tries = inbox.New(), 1 },
		"two tries without a letter":    func(a *actor.Actor) { a.Inbox, a.Tries = inbox.New(), 2 },
		"too many poison letters":       func(a *actor.Actor) { a.Poison = someLetters(mostPoison + 1) },
		"too many, and no letter":       func(a *actor.Actor) { a.Inbox, a.Tries, a.Poison = inbox.New(), 0, someLetters(mostPoison+1) },
		"a poison letter's From":        func(a *actor.Actor) { a.Poison[1].From = strings.Repeat("k", longKey+1) },
		"a poison letter's Args":        func(a *actor.Actor) { a.Poison[0].Args = make([]int64, mostArgs+1) },
		"the last poison letter's Args": func(a *actor.Actor) { a.Poison[1].Args = make([]int64, mostArgs+1) },
	} {
		for _, p := range programs {
			a := some(t)
			spoil(a)
			whole := *a
			wantError(t, what, p, a, 0, api.ErrArg)
			if a.Journal != whole.Journal || a.Inbox != whole.Inbox || a.Outbox != whole.Outbox {
				t.Errorf("%s: a part is another one", what)
			}
		}
	}
	for _, p := range programs {
		if o, e := turn.Take(p, nil, 0); e != api.ErrArg || !reflect.DeepEqual(o, turn.Outcome{}) {
			t.Errorf("nil: %v, %v", o, e)
		}
	}
}

// noPrograms are some that aren't formed.
func noPrograms() []code.Program {
	list := []code.Program{
		{Names: []string{""}},
		{Names: []string{strings.Repeat("x", longKey+1)}},
		{Names: slices.Repeat([]string{"b"}, mostNames+1)},
		{Code: make([]code.Instr, mostCode+1)},
		{Code: make([]code.Instr, 1<<17)},
	}
	for _, in := range []code.Instr{{Op: -1}, {Op: 24}, {Op: math.MaxInt}, {Op: 0, Arg: 1}, {Op: 2, Arg: 8}, {Op: 3, Arg: -1}, {Op: 4, Arg: 4},
		{Op: 15, Arg: 3}, {Op: 16, Arg: math.MinInt64}, {Op: 17, Arg: 1}, {Op: 19, Arg: -1}, {Op: 20, Arg: 1}, {Op: 21, Arg: 1}} {
		// One that is wrong is wrong also where no run would come to it.
		list = append(list, code.Program{Names: []string{"b"}, Code: []code.Instr{{Op: 0}, in}})
		list = append(list, code.Program{Names: []string{"b"}, Code: []code.Instr{in, {Op: 21}}})
	}
	return list
}

func TestProgramsThatAreNotFormed(t *testing.T) {
	for _, p := range noPrograms() {
		wantError(t, "not formed", p, some(t), 0, api.ErrArg)
		// Whether a letter waits, is asked behind this.
		wantError(t, "not formed, and no letter", p, mustNew(t, "a"), 0, api.ErrArg)
	}
	for _, p := range []code.Program{
		{},
		{Names: []string{}, Code: []code.Instr{}},
		{Names: slices.Repeat([]string{strings.Repeat("x", longKey)}, mostNames), Code: make([]code.Instr, mostCode)},
	} {
		wantDone(t, p, some(t), 0)
	}
}

func TestTicks(t *testing.T) {
	for _, now := range []int64{-1, -2, math.MinInt64} {
		for _, p := range []code.Program{{}, parse(t, "fail"), parse(t, "now, store 0")} {
			wantError(t, "a tick below 0", p, some(t), now, api.ErrArg)
			wantError(t, "a tick below 0, and no letter", p, mustNew(t, "a"), now, api.ErrArg)
		}
	}
	for _, now := range []int64{0, 1, math.MaxInt64} {
		a := some(t)
		wantDone(t, parse(t, "now, store 0"), a, now)
		if a.Journal.State()[0] != now {
			t.Errorf("now %d: %d", now, a.Journal.State()[0])
		}
	}
}

// P20.1: ErrNone.

func TestNoLetterWaits(t *testing.T) {
	programs := []code.Program{{}, parse(t, "push 1, store 0"), parse(t, "fail"), parse(t, "jump 0"), parse(t, "drop"), parse(t, "name 62", sends(5))}
	for _, p := range programs {
		wantError(t, "new", p, mustNew(t, "a"), 0, api.ErrNone)
		a := mustNew(t, "a")
		add(t, a, journal.Event{Register: 1, Value: 5})
		a.Poison = someLetters(mostPoison)
		for range mostWaiting {
			send(t, a, "b")
		}
		wantError(t, "poison, and an outbox without room", p, a, 7, api.ErrNone)
	}
	a := mustNew(t, "a")
	push(t, a, someLetters(2)...)
	for range 2 {
		wantDone(t, code.Program{}, a, 0)
	}
	wantError(t, "all were taken", code.Program{}, a, 0, api.ErrNone)
	push(t, a, api.Letter{})
	for range lastTry {
		take(t, parse(t, "fail"), a, 0)
	}
	wantError(t, "the last one is poison", code.Program{}, a, 0, api.ErrNone)
}

// P20.1: a run that halts.

func TestADoneTurn(t *testing.T) {
	a := mustNew(t, "me")
	add(t, a, journal.Event{Register: 0, Value: 5}, journal.Event{Register: 2, Value: 1})
	push(t, a, api.Letter{From: "c", Serial: 9, Kind: -3, Args: []int64{10, 20}}, api.Letter{Kind: 8})
	a.Tries = 2
	send(t, a, "b")
	p := parse(t, "name 62", "name 7878", "load 0, arg 1, add, store 0", "push 1, load 0, send 0", "push 2, kind, reply",
		"push 10, push 3, remind 1", "cancel 0", "serial, store 7")
	steps, timers := wantDone(t, p, a, 100)
	if steps != 16 {
		t.Errorf("%d steps", steps)
	}
	if want := []interp.Timer{{Name: "xx", Due: 110, Period: 3, Kind: -3}, {Name: "b", Cancel: true}}; !slices.Equal(timers, want) {
		t.Errorf("the timers are %v", timers)
	}
	wantTold(t, "done", a, told{
		key: "me", version: 4, state: [8]int64{25, 0, 1, 0, 0, 0, 0, 9},
		events: []journal.Event{{Register: 0, Value: 5}, {Register: 2, Value: 1}, {Register: 0, Value: 25}, {Register: 7, Value: 9}},
		inbox:  []api.Letter{{Kind: 8}},
		outbox: []outbox.Out{
			{To: "b", Letter: api.Letter{From: "me", Serial: 1, Kind: 99, Args: []int64{5, 6}}},
			{To: "b", Letter: api.Letter{From: "me", Serial: 2, Kind: 1, Args: []int64{25}}},
			{To: "c", Letter: api.Letter{From: "me", Serial: 1, Kind: 2, Args: []int64{-3}}},
		},
		serials: map[string]uint64{"b": 2, "c": 1},
	})
}

// The empty program, and those that only halt, take the letter and do nothing else.
func TestAProgramThatDoesNothing(t *testing.T) {
	for text, steps := range map[string]int{"": 0, "halt": 1, "jump 1": 1, "push 1, drop": 2, "halt, fail": 1, "name 62": 0} {
		a := some(t)
		want := tell(a)
		want.inbox, want.tries = want.inbox[1:], 0
		got, timers := wantDone(t, parse(t, text), a, 0)
		if got != steps || len(timers) != 0 {
			t.Errorf("%q: %d steps, timers %v", text, got, timers)
		}
		wantTold(t, text, a, want)
	}
}

func TestTheFirstLetterIsTaken(t *testing.T) {
	a := mustNew(t, "me")
	list := someLetters(mostInbox)
	push(t, a, list...)
	p := parse(t, "kind, store 0, serial, store 1, arg 0, store 2, arg 3, store 3")
	for at, l := range list {
		a.Tries = at % lastTry
		if steps, _ := wantDone(t, p, a, 0); steps != 8 {
			t.Errorf("%d steps", steps)
		}
		args := append(slices.Clone(l.Args), 0, 0, 0, 0)
		if want := [8]int64{l.Kind, int64(l.Serial), args[0], args[3]}; a.Journal.State() != want {
			t.Errorf("letter %d: %v; not %v", at, a.Journal.State(), want)
		}
		if a.Inbox.Len() != len(list)-at-1 || a.Tries != 0 {
			t.Errorf("letter %d: %d wait, %d tries", at, a.Inbox.Len(), a.Tries)
		}
	}
}

func TestEventsAreAddedToTheJournal(t *testing.T) {
	for _, there := range []int{0, 1, mostEvents - 1, mostEvents, mostEvents + 3} {
		for _, more := range []int{0, 1, 2, mostEvents - 1, mostEvents, mostEvents + 1, 50} {
			for _, folded := range []bool{false, true} {
				a := mustNew(t, "a")
				for at := range there {
					add(t, a, journal.Event{Register: at % 3, Value: int64(1000 + at)})
				}
				if folded {
					a.Journal.Fold()
				}
				var text []string
				for at := range more {
					text = append(text, fmt.Sprintf("push %d, store %d", at, at%5))
				}
				push(t, a, api.Letter{})
				wantDone(t, parse(t, text...), a, 0)
				if a.Journal.Version() != uint64(there+more) {
					t.Errorf("%d events and %d: version %d", there, more, a.Journal.Version())
				}
			}
		}
	}
	// One that sets what is there already is an event too.
	a := mustNew(t, "a")
	push(t, a, api.Letter{})
	wantDone(t, parse(t, "load 4, store 4, load 4, store 4"), a, 0)
	if a.Journal.Version() != 2 || !slices.Equal(a.Journal.Events(), []journal.Event{{Register: 4}, {Register: 4}}) {
		t.Errorf("version %d, events %v", a.Journal.Version(), a.Journal.Events())
	}
}

func TestARunIsOverTheStateNotTheBase(t *testing.T) {
	a := mustNew(t, "a")
	for at := range mostEvents + 1 {
		add(t, a, journal.Event{Register: 0, Value: int64(at)})
	}
	push(t, a, api.Letter{})
	wantDone(t, parse(t, "load 0, push 100, add, store 1"), a, 0)
	if want := [8]int64{mostEvents, mostEvents + 100}; a.Journal.State() != want {
		t.Errorf("the state is %v", a.Journal.State())
	}
}

func TestWhatIsSentIsInTheOutboxInOrder(t *testing.T) {
	for count := range mostEmit + 1 {
		a := mustNew(t, "me")
		send(t, a, "b")
		a.Outbox.Pop()
		push(t, a, api.Letter{})
		wantDone(t, parse(t, "name 62", sends(count)), a, 0)
		var want []outbox.Out
		for at := range count {
			l := api.Letter{From: "me", Serial: uint64(at + 2), Kind: int64(at + 1), Args: []int64{int64(10 * (at + 1))}}
			want = append(want, outbox.Out{To: "b", Letter: l})
		}
		if got := a.Outbox.All(); !slices.EqualFunc(got, want, func(x, y outbox.Out) bool { return reflect.DeepEqual(x, y) }) {
			t.Errorf("%d letters: %v; not %v", count, got, want)
		}
	}
	// To several, among them itself; each key has serials of its own.
	a := mustNew(t, "me")
	push(t, a, api.Letter{From: "b"})
	wantDone(t, parse(t, "name 6d65", "name 62", "push 1, push 0, send 1", "push 2, push -1, send 0", "push 3, push 0, send 1", "push 4, push 9, reply"), a, 0)
	var got []string
	for _, out := range a.Outbox.All() {
		got = append(got, fmt.Sprint(out.To, " ", out.Letter))
	}
	want := []string{"b {me 1 1 [0]}", "me {me 1 2 [-1]}", "b {me 2 3 [0]}", "b {me 3 4 [9]}"}
	if !slices.Equal(got, want) || a.Inbox.Len() != 0 {
		t.Errorf("%q; not %q; %d wait", got, want, a.Inbox.Len())
	}
}

func TestAReplyToOutsideIsNone(t *testing.T) {
	a := mustNew(t, "me")
	push(t, a, api.Letter{}, api.Letter{From: "c"})
	reply := parse(t, "push 1, push 2, reply")
	wantDone(t, reply, a, 0)
	if len(a.Outbox.All()) != 0 {
		t.Errorf("sent is %v", a.Outbox.All())
	}
	wantDone(t, reply, a, 0)
	if first, ok := a.Outbox.First(); !ok || first.To != "c" {
		t.Errorf("sent is %v", first)
	}
}

func TestTimersAreTheRuns(t *testing.T) {
	a := mustNew(t, "me")
	push(t, a, api.Letter{Kind: 4}, api.Letter{Kind: 5})
	p := parse(t, "name 62", "name 63", "push 0, push 1, remind 0", "cancel 1", "cancel 0", "push 5, push 2, remind 0", "push 5, push 2, remind 0")
	for _, x := range []struct{ now, kind int64 }{{10, 4}, {math.MaxInt64 - 5, 5}} {
		_, timers := wantDone(t, p, a, x.now)
		again := interp.Timer{Name: "b", Due: x.now + 5, Period: 2, Kind: x.kind}
		want := []interp.Timer{{Name: "b", Due: x.now, Period: 1, Kind: x.kind}, {Name: "c", Cancel: true}, {Name: "b", Cancel: true}, again, again}
		if !slices.Equal(timers, want) {
			t.Errorf("at %d: %v; not %v", x.now, timers, want)
		}
	}
}

// P20.1: ErrState, if the outbox can't take all.

// outboxes are ways to fill an outbox, and how many letters a turn may send then: to a
// key that it knows, each to a new key, and all to one new key.
var outboxes = []struct {
	what                string
	waiting, known      int
	toOld, toNew, toOne int
}{
	{"empty", 0, 0, 4, 4, 4},
	{"room for four", 28, 1, 4, 4, 4},
	{"room for three", 29, 1, 3, 3, 3},
	{"room for two", 30, 5, 2, 2, 2},
	{"room for one", 31, 31, 1, 1, 1},
	{"no room", 32, 1, 0, 0, 0},
	{"four keys more", 0, 60, 4, 4, 4},
	{"three keys more", 0, 61, 4, 3, 4},
	{"one key more", 0, 63, 4, 1, 4},
	{"no key more", 0, 64, 4, 0, 0},
	{"room for one, and no key more", 31, 64, 1, 0, 0},
	{"room for two, and one key more", 30, 63, 2, 1, 2},
	{"nothing more", 32, 64, 0, 0, 0},
}

// filled is an actor with one letter that was tried once, and such an outbox.
func filled(t *testing.T, waiting, known int) *actor.Actor {
	t.Helper()
	a := mustNew(t, "me")
	add(t, a, journal.Event{Register: 0, Value: 1})
	push(t, a, api.Letter{From: "old0", Serial: 5, Kind: 6})
	a.Tries = 1
	for at := range known {
		send(t, a, "old"+strconv.Itoa(at))
		a.Outbox.Pop()
	}
	for range waiting {
		send(t, a, "old0")
	}
	return a
}

func TestAnOutboxThatCannotTakeAll(t *testing.T) {
	for _, x := range outboxes {
		for count := range mostEmit + 1 {
			var old, apart, one []string
			for at := range count {
				old = append(old, "push 1, push 2, reply")
				apart = append(apart, fmt.Sprintf("push 1, push 2, send %d", at))
				one = append(one, "push 1, push 2, send 0")
			}
			for _, way := range []struct {
				what string
				most int
				text []string
			}{{"one it knows", x.toOld, old}, {"new ones", x.toNew, apart}, {"a new one", x.toOne, one}} {
				p := parse(t, "name 70, name 71, name 72, name 73", "push 7, store 0", strings.Join(way.text, ", "))
				a := filled(t, x.waiting, x.known)
				if count <= way.most {
					wantDone(t, p, a, 0)
					continue
				}
				wantError(t, fmt.Sprint(x.what, ": ", count, " to ", way.what), p, a, 0, api.ErrState)
				if a.Tries != 1 || a.Inbox.Len() != 1 || a.Journal.Version() != 1 {
					t.Errorf("%s: %d tries, %d wait, version %d", x.what, a.Tries, a.Inbox.Len(), a.Journal.Version())
				}
			}
		}
	}
}

// Where only a later letter has no room, none of those ahead of it is sent.
func TestAtAnyOfThem(t *testing.T) {
	for _, order := range [][]int{{0, 0, 1, 2}, {0, 1, 0, 2}, {1, 0, 0, 2}, {1, 2, 0, 0}, {2, 1}, {1, 1, 1, 2}} {
		var text []string
		for _, name := range order {
			text = append(text, fmt.Sprintf("push 1, push 2, send %d", name))
		}
		p := parse(t, "name 6f6c6430", "name 70", "name 71", strings.Join(text, ", "))
		wantError(t, fmt.Sprint(order), p, filled(t, 0, 63), 0, api.ErrState)
		wantDone(t, p, filled(t, 0, 62), 0)
	}
}

func TestASerialThatHasNoNext(t *testing.T) {
	for _, left := range []uint64{0, 1, 2, 3} {
		w := codec.NewWriter()
		w.Text("me")
		w.Number(1)
		w.Text("b")
		w.Number(math.MaxUint64 - left)
		w.Number(0)
		for count := range mostEmit + 1 {
			o, e := outbox.Decode(w.Bytes())
			if e != api.OK {
				t.Fatal(e)
			}
			a := mustNew(t, "me")
			a.Outbox = o
			push(t, a, api.Letter{})
			p := parse(t, "name 62", sends(count))
			if uint64(count) <= left {
				wantDone(t, p, a, 0)
				continue
			}
			wantError(t, "no serial", p, a, 0, api.ErrState)
		}
	}
}

func TestATurnBehindErrState(t *testing.T) {
	a := filled(t, mostWaiting, 1)
	p := parse(t, "name 62", sends(2))
	for range 2 {
		wantError(t, "no room", p, a, 0, api.ErrState)
		a.Outbox.Pop()
	}
	wantDone(t, p, a, 0)
	if a.Tries != 0 || a.Inbox.Len() != 0 || len(a.Outbox.All()) != mostWaiting {
		t.Errorf("%d tries, %d wait, %d on their way", a.Tries, a.Inbox.Len(), len(a.Outbox.All()))
	}
	// A run that fails asks for no room, though it sent ahead of that.
	a = filled(t, mostWaiting, 1)
	wantFailed(t, parse(t, "name 62", sends(2), "fail"), a, false, api.ErrRefused, 7)
}

// P20.1: a run that fails.

// failures are programs that fail, by what and with how many steps.
var failures = []struct {
	text  string
	why   api.Errno
	steps int
}{
	{"fail", api.ErrRefused, 1},
	{"drop", api.ErrStack, 1},
	{"jump 0", api.ErrBudget, budget},
	{"push 1, store 0, push 2, store 1, fail", api.ErrRefused, 5},
	{"push 1, dup, jump 1", api.ErrStack, 32},
	{"name 62, push 1, push 2, send 0, push 3, push 4, remind 0, cancel 0, fail", api.ErrRefused, 8},
	{"name 62, push 1, push 2, send 0, jump 0", api.ErrRefused, 19},
	{"name 62, push -1, push 1, remind 0", api.ErrRefused, 3},
	{"push 1, store 3, jump 0", api.ErrBudget, budget},
}

func TestARunThatFails(t *testing.T) {
	for _, x := range failures {
		p := parse(t, x.text)
		for poison := range mostPoison {
			a := some(t)
			a.Tries, a.Poison = 0, someLetters(poison)
			want := tell(a)
			for want.tries = 1; want.tries < lastTry; want.tries++ {
				wantFailed(t, p, a, false, x.why, x.steps)
				wantTold(t, x.text, a, want)
			}
			wantFailed(t, p, a, true, x.why, x.steps)
			want.tries = 0
			want.poison = append(want.poison, want.inbox[0])
			want.inbox = want.inbox[1:]
			wantTold(t, x.text, a, want)
		}
	}
}

// The tries are the first letter's, whatever it failed by.
func TestTriesOfAllKinds(t *testing.T) {
	a := mustNew(t, "me")
	push(t, a, someLetters(3)...)
	wantFailed(t, parse(t, "fail"), a, false, api.ErrRefused, 1)
	wantFailed(t, parse(t, "jump 0"), a, false, api.ErrBudget, budget)
	// One that halts begins the count anew for the next letter.
	wantDone(t, code.Program{}, a, 0)
	for at := range lastTry {
		wantFailed(t, parse(t, "drop"), a, at == lastTry-1, api.ErrStack, 1)
	}
	// So does one that is poison.
	if len(a.Poison) != 1 || a.Poison[0].Serial != 2 || a.Tries != 0 {
		t.Errorf("poison %v, %d tries", a.Poison, a.Tries)
	}
	wantFailed(t, parse(t, "drop"), a, false, api.ErrStack, 1)
}

func TestTooMuchPoison(t *testing.T) {
	for _, x := range failures[:3] {
		p := parse(t, x.text)
		a := some(t)
		a.Tries, a.Poison = 0, someLetters(mostPoison)
		for range lastTry - 1 {
			wantFailed(t, p, a, false, x.why, x.steps)
		}
		wantError(t, x.text, p, a, 0, api.ErrState)
		if a.Tries != 2 || len(a.Poison) != mostPoison || a.Inbox.Len() != 3 {
			t.Errorf("%q: %d tries, %d poison, %d wait", x.text, a.Tries, len(a.Poison), a.Inbox.Len())
		}
		// With room for it the letter goes there; and one that halts needs none.
		b := some(t)
		b.Tries, b.Poison = 2, someLetters(mostPoison)
		wantDone(t, code.Program{}, b, 0)
		a.Poison = a.Poison[1:]
		wantFailed(t, p, a, true, x.why, x.steps)
		if len(a.Poison) != mostPoison || a.Poison[mostPoison-1].Serial != 1 {
			t.Errorf("the poison is %v", a.Poison)
		}
	}
}

// P3: each letter is taken by one turn, or is poison, and all that was sent comes in order.
func TestEachLetterOnce(t *testing.T) {
	// It fails by letters with an argument, and tells the others' kinds.
	p := parse(t, "name 62", "arg 0, jumpz 3, fail", "load 0, push 1, add, store 0", "kind, store 1", "kind, load 0, send 0")
	a := mustNew(t, "me")
	var kinds, good, bad []int64
	next := int64(0)
	turns := 0
	for turns < 100 {
		for a.Inbox.Len() < mostInbox && next < 20 {
			l := api.Letter{Kind: next, Args: []int64{next % 3 & 1}}
			push(t, a, l)
			kinds = append(kinds, next)
			next++
		}
		o, e := take(t, p, a, 0)
		if e == api.ErrNone {
			break
		}
		turns++
		if o.Done {
			good = append(good, a.Journal.State()[1])
		}
		if o.Poisoned {
			bad = append(bad, a.Poison[len(a.Poison)-1].Kind)
		}
	}
	if len(bad) != 7 || len(good) != 13 || turns != 13+7*lastTry || !slices.IsSorted(good) || !slices.IsSorted(bad) {
		t.Errorf("%d turns; taken %v, poison %v", turns, good, bad)
	}
	if all := slices.Sorted(slices.Values(slices.Concat(good, bad))); !slices.Equal(all, kinds) {
		t.Errorf("all are %v; not %v", all, kinds)
	}
	for at, out := range a.Outbox.All() {
		if out.Letter.Serial != uint64(at+1) || out.Letter.Kind != good[at] || out.Letter.Args[0] != int64(at+1) {
			t.Errorf("the letter at %d is %v", at, out)
		}
	}
}

// someProgram is parts of all kinds, one behind the other.
func someProgram(t *testing.T, r *rand.Rand) code.Program {
	t.Helper()
	names := 1 + r.Intn(mostNames)
	var text []string
	for range names {
		text = append(text, "name "+fmt.Sprintf("%02x", "abcdefghijklmnop"[r.Intn(16)]))
	}
	instrs := 0
	for range r.Intn(9) {
		n := func() int { return r.Intn(9) - 1 }
		part := []string{
			fmt.Sprintf("load %d, arg %d, add, store %d", r.Intn(8), r.Intn(4), r.Intn(8)),
			fmt.Sprintf("push %d, load %d, send %d", n(), r.Intn(8), r.Intn(names)),
			fmt.Sprintf("kind, push %d, send %d", n(), r.Intn(names)),
			fmt.Sprintf("serial, push %d, reply", n()),
			fmt.Sprintf("push %d, push %d, remind %d", r.Intn(9), 1+r.Intn(5), r.Intn(names)),
			fmt.Sprintf("cancel %d", r.Intn(names)),
			strings.TrimSuffix(strings.Repeat(fmt.Sprintf("now, store %d, ", r.Intn(8)), 1+r.Intn(6)), ", "),
			"halt",
			[]string{"fail", "drop", fmt.Sprintf("jump %d", instrs), fmt.Sprintf("arg 0, jumpz %d, fail", instrs+3)}[r.Intn(4)],
		}[r.Intn(9)]
		text = append(text, part)
		instrs += strings.Count(part, ",") + 1
	}
	return parse(t, text...)
}

// TestManyTurns takes turns of all kinds, one behind the other, each held against what is
// expected, and the actor against its bytes.
func TestManyTurns(t *testing.T) {
	r := rand.New(rand.NewSource(20))
	seen := map[string]int{}
	for range 300 {
		a := mustNew(t, strings.Repeat("m", 1+r.Intn(longKey)))
		program := someProgram(t, r)
		for range 80 {
			for range r.Intn(3) {
				l := api.Letter{From: []string{"", "a", "zz"}[r.Intn(3)], Serial: r.Uint64() >> r.Intn(64), Kind: int64(r.Intn(5)), Args: make([]int64, r.Intn(mostArgs+1))}
				if len(l.Args) > 0 {
					l.Args[0] = int64(r.Intn(2))
				}
				a.Inbox.Push(l)
			}
			if r.Intn(3) == 0 {
				program = someProgram(t, r)
			}
			if r.Intn(12) == 0 {
				a.Journal.Fold()
				for range r.Intn(mostWaiting) {
					a.Outbox.Pop()
				}
			}
			if r.Intn(40) == 0 {
				a.Poison = nil
			}
			// Another actor of the same bytes answers the same, and becomes the same.
			b, _ := a.Encode()
			other, _ := actor.Decode(b)
			now := int64(r.Intn(1000))
			o, e := take(t, program, a, now)
			if again, againE := turn.Take(program, other, now); againE != e || !same(again, o) {
				t.Errorf("%v, %v; not %v, %v", again, againE, o, e)
			}
			wantTold(t, "the other one", other, tell(a))
			if t.Failed() {
				return
			}
			what := fmt.Sprint(int(e), o.Done, o.Poisoned, int(o.Failed))
			if e == api.ErrState {
				what += fmt.Sprint(" poison ", len(a.Poison) == mostPoison && a.Tries == lastTry-1)
			}
			seen[what]++
		}
	}
	for _, what := range []string{
		"5 false false 0", "8 false false 0 poison false", "8 false false 0 poison true", "0 true false 0",
		"0 false false 10", "0 false false 11", "0 false false 12", "0 false true 10", "0 false true 11", "0 false true 12",
	} {
		if seen[what] < 20 {
			t.Errorf("%q only %d times: %v", what, seen[what], seen)
		}
	}
}

// R2: one actor's turns are nothing to another's.
func TestEachActorIsForItself(t *testing.T) {
	a, b := some(t), some(t)
	was := tell(b)
	for _, text := range []string{"push 1, store 0", "fail", "drop", "jump 0", "name 62, push 1, push 2, send 0"} {
		take(t, parse(t, text), a, 0)
	}
	wantTold(t, "the other one", b, was)
}

// R3: memory.

// held is text in memory that may be written over.
func held(s string) (string, []byte) {
	b := []byte(s)
	return unsafe.String(unsafe.SliceData(b), len(b)), b
}

func TestTheProgramIsLeftAndNotKept(t *testing.T) {
	for _, text := range []string{
		"name 6262, push 1, store 0, push 7, push 8, send 0, push 10, push 3, remind 0, cancel 0",
		"name 6262, push 1, store 0, fail",
	} {
		name, nameBytes := held("bb")
		names := []string{name, "spare", "spare"}[:1]
		instrs := append(make([]code.Instr, 0, 40), parse(t, text).Code...)
		for at := len(instrs); at < cap(instrs); at++ {
			instrs[:cap(instrs)][at] = code.Instr{Op: 21, Arg: 77}
		}
		namesAhead, codeAhead := slices.Clone(names[:3]), slices.Clone(instrs[:cap(instrs)])
		p := code.Program{Names: names, Code: instrs}
		a := some(t)
		a.Tries = 2
		o, e := take(t, p, a, 5)
		if e != api.OK || !slices.Equal(names[:3], namesAhead) || !slices.Equal(instrs[:cap(instrs)], codeAhead) {
			t.Fatalf("%v, %v; the program is %v", o, e, p)
		}
		was := fmt.Sprint(tell(a), o.Timers)
		copy(nameBytes, "xx")
		clear(instrs)
		if is := fmt.Sprint(tell(a), o.Timers); is != was {
			t.Errorf("the program was filled: %v; not %v", is, was)
		}
	}
}

func TestOutcomesAreApart(t *testing.T) {
	p := parse(t, "name 62, push 1, push 2, remind 0, cancel 0, push 1, push 2, remind 0")
	a, b := some(t), some(t)
	first, _ := take(t, p, a, 0)
	second, _ := take(t, p, b, 0)
	was := slices.Clone(second.Timers)
	clear(first.Timers[:cap(first.Timers)])
	if !slices.Equal(second.Timers, was) {
		t.Error("two outcomes share their timers")
	}
	texts := map[*byte]int{unsafe.StringData(p.Names[0]): 1}
	for _, timer := range second.Timers {
		texts[unsafe.StringData(timer.Name)]++
	}
	if len(texts) != 4 {
		t.Error("names of one outcome are shared")
	}
	for _, timer := range second.Timers[len(second.Timers):cap(second.Timers)] {
		if timer != (interp.Timer{}) {
			t.Errorf("the spare room has %v", timer)
		}
	}
}

// The list of the poison may have spare room, in which another's letters lie.
func TestPoisonWritesOverNothing(t *testing.T) {
	for count := range mostPoison {
		room := someLetters(mostPoison + 2)
		was := plain(room)
		a, b := mustNew(t, "a"), mustNew(t, "b")
		for n, x := range []*actor.Actor{a, b} {
			x.Poison = room[:count]
			push(t, x, api.Letter{Kind: int64(70 + n), Args: []int64{int64(n)}})
			for range lastTry {
				take(t, parse(t, "fail"), x, 0)
			}
		}
		if !reflect.DeepEqual(plain(room), was) {
			t.Errorf("%d poison letters: the room is %v", count, room)
		}
		for n, x := range []*actor.Actor{a, b} {
			want := append(plain(was[:count]), api.Letter{Kind: int64(70 + n), Args: []int64{int64(n)}})
			if !reflect.DeepEqual(plain(x.Poison), want) {
				t.Errorf("the poison is %v; not %v", x.Poison, want)
			}
			for _, l := range x.Poison[len(x.Poison):cap(x.Poison)] {
				if !reflect.DeepEqual(l, api.Letter{}) {
					t.Errorf("the spare room has %v", l)
				}
			}
		}
	}
}

// Who holds a part of the actor sees the turn in it.
func TestThePartsStayTheActors(t *testing.T) {
	a := some(t)
	whole := *a
	for _, text := range []string{"name 62, push 1, store 0, push 1, push 2, send 0", "fail", "fail", "fail", "jump 0"} {
		take(t, parse(t, text), a, 0)
		if a.Journal != whole.Journal || a.Inbox != whole.Inbox || a.Outbox != whole.Outbox {
			t.Errorf("%q: a part is another one", text)
		}
	}
}
