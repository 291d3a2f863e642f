package engine_test

import (
	"bytes"
	"cmp"
	"fmt"
	"maps"
	"math"
	"slices"
	"strings"
	"testing"

	"reeve/actor"
	"reeve/api"
	"reeve/book"
	"reeve/code"
	"reeve/disk"
	"reeve/engine"
	"reeve/remind"
	"reeve/turn"
)

// The limits, as DOC.md and the chapters tell them.
const (
	longKey       = 40
	mostArgs      = 4
	mostInbox     = 8
	mostTries     = 3
	mostWaiting   = 32
	mostTargets   = 64
	mostReminders = 64
	mostClients   = 64
	mostSerials   = 4
	mostResident  = 10000
	fewestBlocks  = 24
)

func TestLimitsAreTheDocuments(t *testing.T) {
	if api.MaxKey != longKey || api.MaxArgs != mostArgs || api.MaxInbox != mostInbox || api.MaxPoison != mostTries ||
		api.MaxWaiting != mostWaiting || api.MaxRemind != mostReminders || api.MaxClients != mostClients ||
		api.DedupWindow != mostSerials {
		t.Error("a limit is another one")
	}
}

// The counters, by the chapter's numbers.
const (
	cOffered = iota
	cDone
	cFailed
	cRelayed
	cServed
	cPutAway
	cRefused
)

// caller is what an engine can be asked; so can the model.
type caller interface {
	Teach(p code.Program) api.Errno
	Offer(client, serial uint64, to string, kind int64, args []int64) (bool, api.Errno)
	Tick(by int64) (int64, api.Errno)
	Pick(key string) (turn.Outcome, api.Errno)
	Relay(key string) (string, api.Errno)
	Serve() (remind.Reminder, api.Errno)
	Remind(r remind.Reminder) api.Errno
	Cancel(actor, name string) (bool, api.Errno)
	Pardon(key string) (int, api.Errno)
	Checkpoint() api.Errno
	Actor(key string) (*actor.Actor, api.Errno)
	Keys() []string
	Clock() int64
	Program() code.Program
	Reminders() []remind.Reminder
	Serials(client uint64) []uint64
	Resident() []string
	Counts() []uint64
}

// model is the chapter told a second time: a table of actors that are all always there,
// each one's bytes by its key, and lists for all else. Its book is never full or lost.
type model struct {
	actors   map[string][]byte
	clock    int64
	program  code.Program
	queue    []remind.Reminder
	clients  []uint64
	serials  map[uint64][]uint64
	most     int
	resident []string
	counts   [8]uint64
}

func newModel(most int) *model {
	return &model{
		actors: map[string][]byte{}, serials: map[uint64][]uint64{}, most: min(max(most, 1), mostResident),
	}
}

// opened is the model behind an Open: nobody is in memory, and nothing is counted.
func (m *model) opened(most int) *model {
	same := newModel(most)
	same.actors, same.serials = maps.Clone(m.actors), maps.Clone(m.serials)
	same.clock, same.program = m.clock, m.program
	same.queue, same.clients = slices.Clone(m.queue), slices.Clone(m.clients)
	return same
}

func goodKey(s string) bool { return s != "" && len(s) <= longKey }

// told counts a call that is answered an error.
func (m *model) told(errno api.Errno) api.Errno {
	if errno != api.OK {
		m.counts[cRefused]++
	}
	return errno
}

// get is the actor of a key, to be changed and put back, or not.
func (m *model) get(key string) *actor.Actor {
	a, _ := actor.New(key)
	if b, ok := m.actors[key]; ok {
		a, _ = actor.Decode(b)
	}
	return a
}

func (m *model) put(a *actor.Actor) {
	b, errno := a.Encode()
	if errno != api.OK {
		panic("the model's actor is none")
	}
	m.actors[a.Key()] = b
	if a.Fresh() {
		delete(m.actors, a.Key())
	}
}

func (m *model) touch(key string) {
	m.resident = append(slices.DeleteFunc(m.resident, func(k string) bool { return k == key }), key)
	if len(m.resident) > m.most {
		m.resident = m.resident[1:]
		m.counts[cPutAway]++
	}
}

func (m *model) Teach(p code.Program) api.Errno {
	if !code.Formed(p) {
		return m.told(api.ErrArg)
	}
	m.program = code.Program{Names: slices.Clone(p.Names), Code: slices.Clone(p.Code)}
	return api.OK
}

func (m *model) Offer(client, serial uint64, to string, kind int64, args []int64) (bool, api.Errno) {
	if !goodKey(to) || len(args) > mostArgs {
		return false, m.told(api.ErrArg)
	}
	if slices.Contains(m.serials[client], serial) {
		return false, api.OK
	}
	m.touch(to)
	a := m.get(to)
	if a.Inbox.Len() == mostInbox {
		return false, m.told(api.ErrInbox)
	}
	a.Inbox.Push(api.Letter{Serial: serial, Kind: kind, Args: args})
	m.put(a)
	m.remember(client, serial)
	m.counts[cOffered]++
	return true, api.OK
}

// remember takes the serial into the window.
func (m *model) remember(client, serial uint64) {
	m.clients = append(slices.DeleteFunc(m.clients, func(c uint64) bool { return c == client }), client)
	m.serials[client] = append(slices.Clone(m.serials[client]), serial)
	if len(m.serials[client]) > mostSerials {
		m.serials[client] = m.serials[client][1:]
	}
	if len(m.clients) > mostClients {
		delete(m.serials, m.clients[0])
		m.clients = m.clients[1:]
	}
}

func (m *model) Tick(by int64) (int64, api.Errno) {
	if by < 0 || uint64(m.clock)+uint64(by) > math.MaxInt64 {
		return 0, m.told(api.ErrRange)
	}
	m.clock += by
	return m.clock, api.OK
}

func (m *model) Pick(key string) (turn.Outcome, api.Errno) {
	if !goodKey(key) {
		return turn.Outcome{}, m.told(api.ErrArg)
	}
	m.touch(key)
	a := m.get(key)
	o, errno := turn.Take(m.program, a, m.clock)
	if errno != api.OK {
		return turn.Outcome{}, m.told(errno)
	}
	queue := m.queue
	for _, x := range o.Timers {
		queue = without(queue, key, x.Name)
		if !x.Cancel {
			queue = with(queue, remind.Reminder{Actor: key, Name: x.Name, Due: x.Due, Period: x.Period, Kind: x.Kind})
		}
		if len(queue) > mostReminders {
			return turn.Outcome{}, m.told(api.ErrState)
		}
	}
	m.queue = queue
	m.put(a)
	if o.Done {
		m.counts[cDone]++
	} else {
		m.counts[cFailed]++
	}
	return o, api.OK
}

// without is the reminders but the actor's one of that name; with is they and one more,
// in the order.
func without(queue []remind.Reminder, actor, name string) []remind.Reminder {
	return slices.DeleteFunc(slices.Clone(queue), func(r remind.Reminder) bool {
		return r.Actor == actor && r.Name == name
	})
}

func with(queue []remind.Reminder, r remind.Reminder) []remind.Reminder {
	queue = append(without(queue, r.Actor, r.Name), r)
	slices.SortFunc(queue, func(a, b remind.Reminder) int {
		return cmp.Or(cmp.Compare(a.Due, b.Due), cmp.Compare(a.Actor, b.Actor), cmp.Compare(a.Name, b.Name))
	})
	return queue
}

func (m *model) Relay(key string) (string, api.Errno) {
	if !goodKey(key) {
		return "", m.told(api.ErrArg)
	}
	m.touch(key)
	a := m.get(key)
	first, ok := a.Outbox.First()
	if !ok {
		return "", m.told(api.ErrNone)
	}
	m.touch(first.To)
	if m.get(first.To).Inbox.Len() == mostInbox {
		return "", m.told(api.ErrInbox)
	}
	a.Outbox.Pop()
	m.put(a)
	to := m.get(first.To)
	to.Inbox.Push(first.Letter)
	m.put(to)
	m.counts[cRelayed]++
	return first.To, api.OK
}

func (m *model) Serve() (remind.Reminder, api.Errno) {
	if len(m.queue) == 0 || m.queue[0].Due > m.clock {
		return remind.Reminder{}, m.told(api.ErrNone)
	}
	r := m.queue[0]
	m.touch(r.Actor)
	a := m.get(r.Actor)
	if a.Inbox.Len() == mostInbox {
		return remind.Reminder{}, m.told(api.ErrInbox)
	}
	a.Inbox.Push(api.Letter{Kind: r.Kind, Args: []int64{r.Due}})
	m.put(a)
	m.queue = without(m.queue, r.Actor, r.Name)
	if uint64(r.Due)+uint64(r.Period) <= math.MaxInt64 {
		next := r
		next.Due += r.Period
		m.queue = with(m.queue, next)
	}
	m.counts[cServed]++
	return r, api.OK
}

func (m *model) Remind(r remind.Reminder) api.Errno {
	switch {
	case !goodKey(r.Actor) || len(r.Name) > longKey:
		return m.told(api.ErrArg)
	case r.Due < 0 || r.Period < 1:
		return m.told(api.ErrRange)
	case len(with(m.queue, r)) > mostReminders:
		return m.told(api.ErrFull)
	}
	m.queue = with(m.queue, r)
	return api.OK
}

func (m *model) Cancel(actor, name string) (bool, api.Errno) {
	left := without(m.queue, actor, name)
	there := len(left) < len(m.queue)
	m.queue = left
	return there, api.OK
}

func (m *model) Pardon(key string) (int, api.Errno) {
	if !goodKey(key) {
		return 0, m.told(api.ErrArg)
	}
	m.touch(key)
	a := m.get(key)
	many := len(a.Poison)
	a.Poison = nil
	m.put(a)
	return many, api.OK
}

func (m *model) Checkpoint() api.Errno { return api.OK }

func (m *model) Actor(key string) (*actor.Actor, api.Errno) {
	if !goodKey(key) {
		return nil, api.ErrArg
	}
	m.touch(key)
	return m.get(key), api.OK
}

func (m *model) Keys() []string                 { return slices.Sorted(maps.Keys(m.actors)) }
func (m *model) Clock() int64                   { return m.clock }
func (m *model) Program() code.Program          { return m.program }
func (m *model) Reminders() []remind.Reminder   { return m.queue }
func (m *model) Serials(client uint64) []uint64 { return m.serials[client] }
func (m *model) Resident() []string             { return m.resident }
func (m *model) Counts() []uint64               { return m.counts[:] }

// kept is all that is told beside the actors, who is in memory, and the counters.
func kept(c caller) string {
	var s strings.Builder
	program, errno := code.Print(c.Program())
	fmt.Fprintf(&s, "clock %d\nprogram %v %q\n", c.Clock(), errno, program)
	for _, r := range c.Reminders() {
		fmt.Fprintf(&s, "reminder %q\n", fmt.Sprint(r))
	}
	for client := range uint64(mostClients + 10) {
		if list := c.Serials(client); len(list) > 0 {
			fmt.Fprintf(&s, "client %d: %d\n", client, list)
		}
	}
	fmt.Fprintf(&s, "keys %q\n", c.Keys())
	return s.String()
}

// memory is who is in memory, and the counters.
func memory(c caller) string {
	return fmt.Sprintf("resident %q\ncounts %d\n", c.Resident(), c.Counts())
}

// all is all that is told. It touches all actors that aren't fresh.
func all(t *testing.T, c caller) string {
	t.Helper()
	s := kept(c)
	for _, key := range c.Keys() {
		s += fmt.Sprintf("%q: %x\n", key, bytesOf(t, c, key))
	}
	return s
}

// bytesOf is the bytes of an actor as it is told.
func bytesOf(t *testing.T, c caller, key string) []byte {
	t.Helper()
	a, errno := c.Actor(key)
	if errno != api.OK {
		t.Fatalf("Actor(%q): %v", key, errno)
	}
	b, errno := a.Encode()
	if errno != api.OK || a.Key() != key {
		t.Fatalf("Actor(%q) is %q, with %v", key, a.Key(), errno)
	}
	return b
}

// call is one call, as a text and as what is answered.
type call struct {
	name string
	do   func(c caller) (any, api.Errno)
}

// on makes the call: its answer, as a text.
func (x call) on(c caller) (string, api.Errno) {
	answer, errno := x.do(c)
	return fmt.Sprintf("%q, %d", fmt.Sprint(answer), errno), errno
}

func teach(p code.Program) call {
	return call{fmt.Sprintf("Teach(%v)", p), func(c caller) (any, api.Errno) { return nil, c.Teach(p) }}
}

func offer(client, serial uint64, to string, kind int64, args ...int64) call {
	return call{fmt.Sprintf("Offer(%d, %d, %q, %d, %d)", client, serial, to, kind, args), func(c caller) (any, api.Errno) {
		return pair(c.Offer(client, serial, to, kind, args))
	}}
}

func tick(by int64) call {
	return call{fmt.Sprintf("Tick(%d)", by), func(c caller) (any, api.Errno) { return pair(c.Tick(by)) }}
}

func pick(key string) call {
	return call{fmt.Sprintf("Pick(%q)", key), func(c caller) (any, api.Errno) { return pair(c.Pick(key)) }}
}

func relay(key string) call {
	return call{fmt.Sprintf("Relay(%q)", key), func(c caller) (any, api.Errno) { return pair(c.Relay(key)) }}
}

func serve() call {
	return call{"Serve()", func(c caller) (any, api.Errno) { return pair(c.Serve()) }}
}

func setReminder(r remind.Reminder) call {
	return call{fmt.Sprintf("Remind(%q)", fmt.Sprint(r)), func(c caller) (any, api.Errno) { return nil, c.Remind(r) }}
}

func cancel(actor, name string) call {
	return call{fmt.Sprintf("Cancel(%q, %q)", actor, name), func(c caller) (any, api.Errno) { return pair(c.Cancel(actor, name)) }}
}

func pardon(key string) call {
	return call{fmt.Sprintf("Pardon(%q)", key), func(c caller) (any, api.Errno) { return pair(c.Pardon(key)) }}
}

func checkpoint() call {
	return call{"Checkpoint()", func(c caller) (any, api.Errno) { return nil, c.Checkpoint() }}
}

func look(key string) call {
	return call{fmt.Sprintf("Actor(%q)", key), func(c caller) (any, api.Errno) {
		a, errno := c.Actor(key)
		b, _ := a.Encode()
		return fmt.Sprintf("%x", b), errno
	}}
}

func pair[T any](answer T, errno api.Errno) (any, api.Errno) { return answer, errno }

// both is an engine on a disk, and the model beside it.
type both struct {
	t *testing.T
	d *disk.Disk
	e *engine.Engine
	m *model
}

// newBoth opens a new disk.
func newBoth(t *testing.T, blocks, resident int) *both {
	t.Helper()
	d := disk.New(blocks)
	return &both{t, d, mustOpen(t, d, resident), newModel(resident)}
}

// mustOpen opens a disk that nothing stands against.
func mustOpen(t *testing.T, d *disk.Disk, resident int) *engine.Engine {
	t.Helper()
	e, errno := engine.Open(d, resident)
	if errno != api.OK || e == nil {
		t.Fatalf("Open: %v, %v", e, errno)
	}
	return e
}

// copied is an engine on a copy of the disk, and a copy of the model, both just opened.
func (b *both) copied(resident int) *both {
	b.t.Helper()
	d := b.d.Cut(b.d.Writes())
	return &both{b.t, d, mustOpen(b.t, d, resident), b.m.opened(resident)}
}

// do makes calls of both, and holds the answers, and all but the actors, against one
// another. It answers the last one's error.
func (b *both) do(calls ...call) api.Errno {
	b.t.Helper()
	var errno api.Errno
	for _, x := range calls {
		var got, want string
		got, errno = x.on(b.e)
		want, _ = x.on(b.m)
		if got != want {
			b.t.Fatalf("%s: %s; not %s", x.name, got, want)
		}
		b.same(x.name)
	}
	return errno
}

// same holds all that is told, but the actors, against the model.
func (b *both) same(what string) {
	b.t.Helper()
	wantText(b.t, what, kept(b.e)+memory(b.e), kept(b.m)+memory(b.m))
}

// sameAll holds the actors against the model too, and does so of an engine that is
// opened on a copy of the disk.
func (b *both) sameAll(what string) {
	b.t.Helper()
	b.same(what)
	wantText(b.t, what, all(b.t, b.e), all(b.t, b.m))
	b.lasts(what)
}

// lasts holds what lies on the disk against the model.
func (b *both) lasts(what string) {
	b.t.Helper()
	again := b.copied(3)
	again.same(what + ", opened again")
	wantText(b.t, what+", opened again", all(b.t, again.e), all(b.t, again.m))
	if again.d.Writes() != b.d.Writes() {
		b.t.Errorf("%s: Open has written", what)
	}
}

// wantText holds two texts of many lines against one another.
func wantText(t *testing.T, what, got, want string) {
	t.Helper()
	if got == want {
		return
	}
	g, w := strings.Split(got, "\n"), strings.Split(want, "\n")
	for at := range max(len(g), len(w)) {
		switch {
		case at >= len(g):
			t.Fatalf("%s: nothing; not %s", what, w[at])
		case at >= len(w):
			t.Fatalf("%s: %s; not nothing", what, g[at])
		case g[at] != w[at]:
			t.Fatalf("%s: %s; not %s", what, g[at], w[at])
		}
	}
}

// want asks for an answer: what a call answers, as fmt tells it, and its error.
func (b *both) want(x call, answer any, errno api.Errno) {
	b.t.Helper()
	got, _ := x.on(b.e)
	if want := fmt.Sprintf("%q, %d", fmt.Sprint(answer), errno); got != want {
		b.t.Fatalf("%s: %s; not %s", x.name, got, want)
	}
	x.on(b.m)
	b.same(x.name)
}

// nothingWritten makes calls that write nothing.
func (b *both) nothingWritten(calls ...call) {
	b.t.Helper()
	writes := b.d.Writes()
	b.do(calls...)
	if b.d.Writes() != writes {
		b.t.Errorf("%v: %d writes", calls[0].name, b.d.Writes()-writes)
	}
}

// program makes a program of its lines; n:x stands for the name's line of x.
func program(t *testing.T, lines ...string) code.Program {
	t.Helper()
	var s strings.Builder
	for _, line := range lines {
		if name, ok := strings.CutPrefix(line, "n:"); ok {
			line = fmt.Sprintf("name %x", name)
		}
		s.WriteString(line + "\n")
	}
	p, at, errno := code.Parse(s.String())
	if errno != api.OK {
		t.Fatalf("line %d of %q: %v", at, lines, errno)
	}
	return p
}

func sameMap(a, b book.Map) bool {
	return slices.Equal(a.Super, b.Super) && slices.Equal(a.Log, b.Log) &&
		slices.Equal(a.Used, b.Used) && slices.Equal(a.Free, b.Free)
}

// onBook commits changes to the book that lies on the disk.
func onBook(t *testing.T, d *disk.Disk, list ...api.Change) {
	t.Helper()
	b, errno := book.Open(d)
	if errno != api.OK {
		t.Fatal(errno)
	}
	if errno := b.Commit(list); errno != api.OK {
		t.Fatal(errno)
	}
}

// inBook is all keys and values of the book that lies on the disk.
func inBook(t *testing.T, d *disk.Disk) []api.Change {
	t.Helper()
	b, errno := book.Open(d)
	if errno != api.OK {
		t.Fatal(errno)
	}
	var list []api.Change
	for _, key := range b.Keys("", "") {
		value, _ := b.Get(key)
		list = append(list, api.Change{Key: key, Value: bytes.Clone(value)})
	}
	return list
}
