package outbox_test

import (
	"bytes"
	"encoding/hex"
	"maps"
	"math"
	"math/rand"
	"reflect"
	"slices"
	"strconv"
	"strings"
	"testing"
	"unsafe"

	"reeve/api"
	"reeve/codec"
	"reeve/letter"
	"reeve/outbox"
)

// The limits, as DOC.md and the chapter tell them.
const (
	mostKey     = 40
	mostArgs    = 4
	mostWaiting = 32
	mostTargets = 64
)

// target is a key and its last serial, as an outbox's bytes tell them.
type target struct {
	key  string
	last uint64
}

// model is what an outbox should be: its owner, the last serials, the letters that wait.
type model struct {
	owner string
	last  map[string]uint64
	list  []outbox.Out
}

// newModel is an outbox without letters.
func newModel(owner string) *model { return &model{owner: owner, last: map[string]uint64{}} }

// send is what the document asks of Send.
func (m *model) send(to string, kind int64, args []int64) (uint64, api.Errno) {
	_, old := m.last[to]
	switch {
	case to == "" || len(to) > mostKey || len(args) > mostArgs:
		return 0, api.ErrArg
	case len(m.list) >= mostWaiting || !old && len(m.last) >= mostTargets:
		return 0, api.ErrFull
	}
	m.last[to]++
	l := api.Letter{From: m.owner, Serial: m.last[to], Kind: kind, Args: slices.Clone(args)}
	m.list = append(slices.Clone(m.list), outbox.Out{To: to, Letter: l})
	return l.Serial, api.OK
}

// pop is what the document asks of Pop.
func (m *model) pop() (outbox.Out, bool) {
	if len(m.list) == 0 {
		return outbox.Out{}, false
	}
	first := m.list[0]
	m.list = m.list[1:]
	return first, true
}

// clone is the same model in memory of its own.
func (m *model) clone() *model {
	return &model{owner: m.owner, last: maps.Clone(m.last), list: copyOf(m.list)}
}

// targets are the model's keys and serials, rising.
func (m *model) targets() []target {
	var list []target
	for _, key := range slices.Sorted(maps.Keys(m.last)) {
		list = append(list, target{key, m.last[key]})
	}
	return list
}

// form is the model's bytes.
func (m *model) form() []byte { return formOf(m.owner, m.targets(), m.list) }

// copyOf is the same letters in memory of their own.
func copyOf(list []outbox.Out) []outbox.Out {
	list = slices.Clone(list)
	for at := range list {
		list[at].Letter.Args = slices.Clone(list[at].Letter.Args)
	}
	return list
}

// formOf is the bytes of these parts, whether or not an outbox may have them.
func formOf(owner string, targets []target, list []outbox.Out) []byte {
	w := codec.NewWriter()
	w.Text(owner)
	w.Number(uint64(len(targets)))
	for _, x := range targets {
		w.Text(x.key)
		w.Number(x.last)
	}
	w.Number(uint64(len(list)))
	for _, x := range list {
		w.Text(x.To)
		w.Text(string(letterForm(x.Letter)))
	}
	return w.Bytes()
}

// letterForm is a letter's bytes, whether or not it is formed.
func letterForm(l api.Letter) []byte {
	w := codec.NewWriter()
	w.Text(l.From)
	w.Number(l.Serial)
	w.Int(l.Kind)
	w.Number(uint64(len(l.Args)))
	for _, n := range l.Args {
		w.Int(n)
	}
	return w.Bytes()
}

// unhex makes bytes of hexadecimal digits with spaces between.
func unhex(t *testing.T, form string) []byte {
	t.Helper()
	b, err := hex.DecodeString(strings.ReplaceAll(form, " ", ""))
	if err != nil {
		t.Fatalf("%q: %v", form, err)
	}
	return b
}

// alike holds letters against each other with a comparison that isn't package letter's.
func alike(a, b outbox.Out) bool {
	if len(a.Letter.Args) == 0 && len(b.Letter.Args) == 0 {
		a.Letter.Args, b.Letter.Args = nil, nil
	}
	return reflect.DeepEqual(a, b)
}

func allAlike(a, b []outbox.Out) bool { return slices.EqualFunc(a, b, alike) }

// pair is an outbox beside what it should be: each call goes to both.
type pair struct {
	t *testing.T
	o *outbox.Outbox
	m *model
}

// newPair is a new outbox of the owner.
func newPair(t *testing.T, owner string) pair {
	t.Helper()
	o, e := outbox.New(owner)
	if e != api.OK || o == nil {
		t.Fatalf("New(%q): %v, %v", owner, o, e)
	}
	return pair{t, o, newModel(owner)}
}

// send sends, and holds the answer against the model's, which it tells.
func (p pair) send(what, to string, kind int64, args ...int64) api.Errno {
	p.t.Helper()
	serial, e := p.o.Send(to, kind, args)
	wantSerial, want := p.m.send(to, kind, args)
	if serial != wantSerial || e != want {
		p.t.Errorf("%s: Send to %q is %d, %v; not %d, %v", what, to, serial, e, wantSerial, want)
	}
	return want
}

// pop pops, and holds the answer against the model's.
func (p pair) pop(what string) {
	p.t.Helper()
	out, ok := p.o.Pop()
	want, wantOK := p.m.pop()
	if ok != wantOK || !alike(out, want) {
		p.t.Errorf("%s: Pop is %v, %v; not %v, %v", what, out, ok, want, wantOK)
	}
}

// same holds all that the outbox tells against the model.
func (p pair) same(what string) {
	p.t.Helper()
	wantOutbox(p.t, what, p.o, p.m)
}

// fillTargets sends to new keys and pops these letters, till there are that many targets.
func (p pair) fillTargets(count int) {
	p.t.Helper()
	for at := 0; len(p.m.last) < count; at++ {
		if e := p.send("a new key", keyAt(at), int64(at)); e != api.OK {
			p.t.Fatalf("key %d: %v", at, e)
		}
		p.pop("a new key")
	}
}

// fillWaiting sends till that many letters wait.
func (p pair) fillWaiting(count int) {
	p.t.Helper()
	for at := 0; len(p.m.list) < count; at++ {
		if e := p.send("to wait", keyAt(at%5), int64(-at), someArgs(at)...); e != api.OK {
			p.t.Fatalf("letter %d: %v", at, e)
		}
	}
}

// keyAt is a key for each place, not rising with it.
func keyAt(at int) string { return "k" + strconv.Itoa(at*37%101) + "-" + strconv.Itoa(at) }

// someArgs are none to four integers.
func someArgs(at int) []int64 { return []int64{int64(at), -1, math.MinInt64, math.MaxInt64}[:at%5] }

// wantOutbox holds all that an outbox tells against what it should be.
func wantOutbox(t *testing.T, what string, o *outbox.Outbox, m *model) {
	t.Helper()
	if o.Owner() != m.owner {
		t.Errorf("%s: Owner is %q; not %q", what, o.Owner(), m.owner)
	}
	if all := o.All(); !allAlike(all, m.list) {
		t.Errorf("%s: All is %v; not %v", what, all, m.list)
	}
	var first outbox.Out
	if len(m.list) > 0 {
		first = m.list[0]
	}
	if out, ok := o.First(); ok != (len(m.list) > 0) || !alike(out, first) {
		t.Errorf("%s: First is %v, %v; of %v", what, out, ok, m.list)
	}
	for key, last := range m.last {
		if o.Serial(key) != last {
			t.Errorf("%s: Serial(%q) is %d; not %d", what, key, o.Serial(key), last)
		}
	}
	if b := o.Encode(); !bytes.Equal(b, m.form()) {
		t.Errorf("%s: Encode is %x; not %x", what, b, m.form())
	}
}

func mustDecode(t *testing.T, b []byte) *outbox.Outbox {
	t.Helper()
	o, e := outbox.Decode(b)
	if e != api.OK || o == nil {
		t.Fatalf("Decode(%x): %v, %v", b, o, e)
	}
	return o
}

// wantNoOutbox holds a Decode against ErrForm, beside which there is no outbox.
func wantNoOutbox(t *testing.T, why string, b []byte) {
	t.Helper()
	if o, e := outbox.Decode(b); e != api.ErrForm || o != nil {
		t.Errorf("%s: Decode(%x) is %v, %v", why, b, o, e)
	}
}

func TestExamples(t *testing.T) {
	o, e := outbox.New("me")
	if e != api.OK {
		t.Fatal(e)
	}
	for at, x := range []struct {
		to     string
		serial uint64
	}{{"b", 1}, {"c", 1}, {"b", 2}} {
		if s, e := o.Send(x.to, int64(at), nil); s != x.serial || e != api.OK {
			t.Errorf("Send(%s) is %d, %v; not %d", x.to, s, e, x.serial)
		}
	}
	want := outbox.Out{To: "b", Letter: api.Letter{From: "me", Serial: 1}}
	if out, ok := o.Pop(); !ok || !alike(out, want) {
		t.Errorf("Pop is %v, %v", out, ok)
	}
}

func TestLimitsAreTheDocuments(t *testing.T) {
	if api.MaxKey != mostKey || api.MaxArgs != mostArgs || api.MaxWaiting != mostWaiting {
		t.Errorf("limits: %d, %d, %d", api.MaxKey, api.MaxArgs, api.MaxWaiting)
	}
}

// P14.1: New and Send.

// texts are keys and such as are none.
func texts() []string {
	list := []string{"\x00", "\xff", "\x00\xff", "é", strings.Repeat("é", 20), strings.Repeat("é", 21), " ", "\n", "a\x00"}
	for size := range 2*mostKey + 1 {
		list = append(list, strings.Repeat("k", size))
	}
	return append(list, strings.Repeat("k", 256+1), strings.Repeat("k", 65536+mostKey))
}

// isKey tells whether a text is a key.
func isKey(s string) bool { return len(s) > 0 && len(s) <= mostKey }

func TestNewOfAKey(t *testing.T) {
	for _, owner := range texts() {
		if !isKey(owner) {
			if o, e := outbox.New(owner); e != api.ErrArg || o != nil {
				t.Errorf("New(%q) is %v, %v", owner, o, e)
			}
			continue
		}
		p := newPair(t, owner)
		p.same("new")
		p.pop("new")
		if p.o.Serial(owner) != 0 || p.o.Serial("b") != 0 {
			t.Errorf("New(%q) has serials", owner)
		}
	}
}

func TestSendToAKey(t *testing.T) {
	for _, to := range texts() {
		p := newPair(t, "me")
		want := api.OK
		if !isKey(to) {
			want = api.ErrArg
		}
		for range 3 {
			if e := p.send("to", to, 5, 6); e != want {
				t.Errorf("Send to %q: %v", to, e)
			}
			p.same("to")
		}
	}
}

func TestSendOfArgs(t *testing.T) {
	for size := range 3 * mostArgs {
		p := newPair(t, "me")
		want := api.OK
		if size > mostArgs {
			want = api.ErrArg
		}
		if e := p.send("args", "b", 0, make([]int64, size, 3*mostArgs)...); e != want {
			t.Errorf("%d args: %v", size, e)
		}
		p.same("args")
	}
}

func TestSentIsTheLastOneFromTheOwner(t *testing.T) {
	o, _ := outbox.New("me")
	if s, e := o.Send("you", -7, []int64{1, math.MinInt64, math.MaxInt64, 0}); s != 1 || e != api.OK {
		t.Errorf("Send is %d, %v", s, e)
	}
	first := outbox.Out{To: "you", Letter: api.Letter{From: "me", Serial: 1, Kind: -7, Args: []int64{1, math.MinInt64, math.MaxInt64, 0}}}
	if all := o.All(); !allAlike(all, []outbox.Out{first}) {
		t.Errorf("All is %v", all)
	}
	if s, e := o.Send("she", math.MinInt64, nil); s != 1 || e != api.OK {
		t.Errorf("Send is %d, %v", s, e)
	}
	second := outbox.Out{To: "she", Letter: api.Letter{From: "me", Serial: 1, Kind: math.MinInt64}}
	if all := o.All(); !allAlike(all, []outbox.Out{first, second}) {
		t.Errorf("All is %v", all)
	}
}

func TestEachKeyHasSerialsOfItsOwn(t *testing.T) {
	p := newPair(t, "me")
	// Such as are the beginning of another, the owner itself, and not in order.
	keys := []string{"b", "a", "ab", "me", "aa", "a\x00", "\xff", "\x00", "é"}
	for n := range 3 {
		for _, to := range keys {
			if s := p.o.Serial(to); s != uint64(n) {
				t.Errorf("Serial(%q) is %d; not %d", to, s, n)
			}
			p.send("each", to, int64(n))
			p.same("each")
		}
	}
}

// TestSerialsGoOnBehindAPop holds that a serial isn't used again once its letter is gone.
func TestSerialsGoOnBehindAPop(t *testing.T) {
	p := newPair(t, "me")
	for n := range uint64(300) {
		if s, e := p.o.Send("b", 0, nil); s != n+1 || e != api.OK {
			t.Fatalf("Send is %d, %v; not %d", s, e, n+1)
		}
		if out, ok := p.o.Pop(); !ok || out.Letter.Serial != n+1 {
			t.Fatalf("Pop is %v, %v; not %d", out, ok, n+1)
		}
		if s := p.o.Serial("b"); s != n+1 {
			t.Fatalf("Serial is %d; not %d", s, n+1)
		}
	}
}

func TestAtMostThirtyTwoWait(t *testing.T) {
	p := newPair(t, "me")
	for at := range mostWaiting {
		if e := p.send("below the limit", keyAt(at%5), 0); e != api.OK {
			t.Errorf("letter %d: %v", at, e)
		}
	}
	for range 3 {
		for _, to := range []string{keyAt(0), keyAt(4), "new"} {
			if e := p.send("full", to, 1, 2); e != api.ErrFull {
				t.Errorf("full, to %q: %v", to, e)
			}
			p.same("full")
		}
	}
	if s := p.o.Serial("new"); s != 0 {
		t.Errorf("a Send that was refused left the serial %d", s)
	}
	p.pop("full")
	if e := p.send("room for one", "new", 3); e != api.OK || p.o.Serial("new") != 1 {
		t.Errorf("room for one: %v, %d", e, p.o.Serial("new"))
	}
	if e := p.send("and for no more", "new", 3); e != api.ErrFull {
		t.Errorf("no room: %v", e)
	}
	p.same("full again")
}

func TestSerialsOfAtMostSixtyFour(t *testing.T) {
	p := newPair(t, "me")
	p.fillTargets(mostTargets)
	for range 3 {
		for _, to := range []string{"new", "a", "\x00", "\xff", "me", strings.Repeat("k", mostKey)} {
			if e := p.send("a key too many", to, 0); e != api.ErrFull || p.o.Serial(to) != 0 {
				t.Errorf("to %q: %v, %d", to, e, p.o.Serial(to))
			}
			p.same("a key too many")
		}
	}
	for key := range maps.Clone(p.m.last) {
		if e := p.send("one of the 64", key, 9); e != api.OK || p.o.Serial(key) != 2 {
			t.Errorf("to %q: %v, %d", key, e, p.o.Serial(key))
		}
		p.pop("one of the 64")
	}
	if e := p.send("still too many", "new", 0); e != api.ErrFull {
		t.Errorf("still too many: %v", e)
	}
	p.same("64 keys")
}

func TestTheSixtyFourthKeyIsTaken(t *testing.T) {
	p := newPair(t, "me")
	p.fillTargets(mostTargets - 1)
	for range 2 {
		if e := p.send("the 64th", "new", 0); e != api.OK {
			t.Errorf("the 64th: %v", e)
		}
		if e := p.send("the 65th", "newer", 0); e != api.ErrFull {
			t.Errorf("the 65th: %v", e)
		}
	}
	p.same("64 keys")
}

// TestArgumentsAreAskedFirst holds that a full outbox answers ErrArg to wrong arguments.
func TestArgumentsAreAskedFirst(t *testing.T) {
	p := newPair(t, "me")
	p.fillTargets(mostTargets)
	p.fillWaiting(mostWaiting)
	wrong := []struct {
		to   string
		args int
	}{{"", 0}, {"", 5}, {strings.Repeat("k", mostKey+1), 0}, {"b", mostArgs + 1}, {keyAt(0), mostArgs + 1}, {keyAt(0), 300}}
	for _, x := range wrong {
		if e := p.send("wrong", x.to, 0, make([]int64, x.args)...); e != api.ErrArg {
			t.Errorf("to %q, %d args: %v", x.to, x.args, e)
		}
	}
	p.same("wrong")
}

// TestARefusedSendUsesNoSerial holds that the next one has the serial that it would have had.
func TestARefusedSendUsesNoSerial(t *testing.T) {
	p := newPair(t, "me")
	p.send("first", "b", 0)
	p.send("five args", "b", 0, 1, 2, 3, 4, 5)
	p.fillWaiting(mostWaiting)
	p.send("full", "b", 0)
	p.pop("full")
	p.send("second", "b", 0)
	if s := p.o.Serial("b"); s != 2 {
		t.Errorf("Serial is %d", s)
	}
	p.same("refused")
}

// TestBehindTheGreatestSerial holds that no letter gets a serial that isn't the next one.
func TestBehindTheGreatestSerial(t *testing.T) {
	m := newModel("me")
	m.last["b"], m.last["c"] = math.MaxUint64-1, 7
	p := pair{t, mustDecode(t, m.form()), m}
	if e := p.send("the greatest", "b", 1); e != api.OK || p.o.Serial("b") != math.MaxUint64 {
		t.Errorf("the greatest: %v, %d", e, p.o.Serial("b"))
	}
	for range 2 {
		if s, e := p.o.Send("b", 2, nil); s != 0 || e != api.ErrFull {
			t.Errorf("behind the greatest: %d, %v", s, e)
		}
		if s, e := p.o.Send("b", 2, make([]int64, mostArgs+1)); s != 0 || e != api.ErrArg {
			t.Errorf("behind the greatest, five args: %d, %v", s, e)
		}
		p.same("behind the greatest")
	}
	p.send("another", "c", 3)
	p.same("another")
	wantOutbox(t, "there and back", mustDecode(t, p.o.Encode()), p.m)
}

func TestAgainstAModel(t *testing.T) {
	r := rand.New(rand.NewSource(41))
	for _, keys := range []int{1, 2, 5, mostTargets - 1, mostTargets, mostTargets + 1, 2 * mostTargets} {
		p := newPair(t, "me")
		// The more come and then the more go, so that both ends are met often.
		for n := range 2000 {
			if r.Intn(10) < 3+4*(n/100%2) {
				p.send("any", keyAt(r.Intn(keys)), int64(r.Uint64())>>r.Intn(64), someArgs(r.Intn(9))...)
			} else {
				p.pop("any")
			}
			if r.Intn(10) == 0 {
				p.same("any")
			}
			if t.Failed() {
				t.Fatalf("%d keys", keys)
			}
		}
		p.same("any")
	}
}

// P14.2: First, Pop, All, Serial and Owner.

func TestFirstChangesNothing(t *testing.T) {
	p := newPair(t, "me")
	p.fillWaiting(5)
	for range 20 {
		if out, ok := p.o.First(); !ok || !alike(out, p.m.list[0]) {
			t.Errorf("First is %v, %v", out, ok)
		}
	}
	p.same("behind First")
}

func TestPopTakesTheFirstOne(t *testing.T) {
	for count := range mostWaiting + 1 {
		p := newPair(t, "me")
		p.fillWaiting(count)
		for range count {
			p.pop("one behind the other")
			p.same("one behind the other")
		}
		for range 3 {
			p.pop("none")
			if out, ok := p.o.First(); ok || !alike(out, outbox.Out{}) {
				t.Errorf("First of none is %v, %v", out, ok)
			}
			p.same("none")
		}
	}
}

func TestOneThatWasEmptiedSendsAgain(t *testing.T) {
	p := newPair(t, "me")
	for range 3 {
		p.fillWaiting(mostWaiting)
		p.same("full")
		for range mostWaiting {
			p.pop("full")
		}
		p.same("emptied")
	}
}

func TestSerialOfOneToWhomNothingWasSent(t *testing.T) {
	p := newPair(t, "me")
	for _, to := range append(texts(), "b", "me") {
		if s := p.o.Serial(to); s != 0 {
			t.Errorf("new: Serial(%q) is %d", to, s)
		}
	}
	for _, to := range []string{"b", "d", "dd", strings.Repeat("k", mostKey)} {
		p.send("some", to, 0)
	}
	for _, to := range []string{"", "a", "c", "e", "bb", "ddd", "B", "b\x00", "me", strings.Repeat("k", mostKey-1), strings.Repeat("k", mostKey+1)} {
		if s := p.o.Serial(to); s != 0 {
			t.Errorf("some: Serial(%q) is %d", to, s)
		}
	}
	p.same("some")
}

func TestOwnerStaysTheSame(t *testing.T) {
	p := newPair(t, "me")
	for range 3 {
		p.fillWaiting(mostWaiting)
		if s := p.o.Owner(); s != "me" {
			t.Errorf("Owner is %q", s)
		}
		p.pop("owner")
	}
}

// wantNobodys holds a zero outbox, or nil, against what it answers to all calls.
func wantNobodys(t *testing.T, what string, o *outbox.Outbox) {
	t.Helper()
	for _, to := range texts() {
		for size := range mostArgs + 2 {
			if s, e := o.Send(to, 1, make([]int64, size)); s != 0 || e != api.ErrArg {
				t.Errorf("%s: Send to %q is %d, %v", what, to, s, e)
			}
		}
		if s := o.Serial(to); s != 0 {
			t.Errorf("%s: Serial(%q) is %d", what, to, s)
		}
	}
	if out, ok := o.First(); ok || !alike(out, outbox.Out{}) {
		t.Errorf("%s: First is %v, %v", what, out, ok)
	}
	if out, ok := o.Pop(); ok || !alike(out, outbox.Out{}) {
		t.Errorf("%s: Pop is %v, %v", what, out, ok)
	}
	if len(o.All()) != 0 || o.Owner() != "" || len(o.Encode()) != 0 {
		t.Errorf("%s: %v, %q, %x", what, o.All(), o.Owner(), o.Encode())
	}
}

func TestZeroAndNilOutbox(t *testing.T) {
	var zero outbox.Outbox
	var none *outbox.Outbox
	for range 2 {
		wantNobodys(t, "zero", &zero)
		wantNobodys(t, "nil", none)
	}
	wantNoOutbox(t, "a zero one's bytes", zero.Encode())
	wantNoOutbox(t, "nil's bytes", none.Encode())
}

// P14.3: as bytes.

func TestEncodeIsTheFormOfAll(t *testing.T) {
	p := newPair(t, "me")
	wantForm := func(form string) {
		t.Helper()
		if b := p.o.Encode(); !bytes.Equal(b, unhex(t, form)) {
			t.Errorf("Encode is %x; not %s", b, form)
		}
	}
	wantForm("02 6d65 00 00")
	p.send("b", "b", 5, -1)
	wantForm("02 6d65 01 0162 01 01 0162 07 026d65 01 0a 01 01")
	p.send("a", "a", 0)
	wantForm("02 6d65 02 0161 01 0162 01 02 0162 07 026d65 01 0a 01 01 0161 06 026d65 01 00 00")
	p.send("b", "b", -1)
	p.pop("the first")
	wantForm("02 6d65 02 0161 01 0162 02 02 0161 06 026d65 01 00 00 0162 06 026d65 02 01 00")
	p.pop("the second")
	p.pop("the third")
	wantForm("02 6d65 02 0161 01 0162 02 00")
}

func TestEncodeTellsTheKeysRising(t *testing.T) {
	keys := []string{"\x00", "\x00\x00", "A", "a", "a\x00", "aa", "ab", "b", "\xc3\xa9", "\xff", "\xff\x00"}
	r := rand.New(rand.NewSource(42))
	for range 50 {
		p := newPair(t, "me")
		for _, at := range r.Perm(len(keys)) {
			p.send("in any order", keys[at], 0)
			p.pop("in any order")
		}
		var targets []target
		for _, key := range keys {
			targets = append(targets, target{key, 1})
		}
		if b := p.o.Encode(); !bytes.Equal(b, formOf("me", targets, nil)) {
			t.Errorf("Encode is %x", b)
		}
	}
}

// someModels are outboxes of all sizes, with letters that went.
func someModels(t *testing.T) []*model {
	t.Helper()
	var list []*model
	for _, targets := range []int{0, 1, 5, 30, mostTargets} {
		for _, count := range []int{0, 1, 2, 9, mostWaiting} {
			p := newPair(t, strings.Repeat("o", 1+targets*39/mostTargets))
			p.fillTargets(targets)
			if targets >= 5 || targets == 0 {
				p.fillWaiting(count)
			}
			list = append(list, p.m)
		}
	}
	return list
}

func TestDecodeIsThatOutbox(t *testing.T) {
	for _, m := range someModels(t) {
		p := pair{t, mustDecode(t, m.form()), m}
		p.same("decoded")
		for range len(m.list) + 1 {
			p.pop("decoded")
			p.same("decoded")
		}
	}
}

func TestADecodedOutboxGoesOn(t *testing.T) {
	for _, m := range someModels(t) {
		p := pair{t, mustDecode(t, m.form()), m}
		for at := range 2 * mostTargets {
			p.send("decoded", keyAt(at), 1, 2, 3)
			if at%3 > 0 {
				p.pop("decoded")
			}
		}
		p.same("decoded")
	}
}

func TestDecodeAtTheLimits(t *testing.T) {
	long := strings.Repeat("k", mostKey)
	m := newModel(long)
	for at := range mostTargets {
		m.last[long[:mostKey-2]+strconv.Itoa(10+at)] = math.MaxUint64 - uint64(at)
	}
	keys := slices.Sorted(maps.Keys(m.last))
	for at := range mostWaiting {
		last := m.last[keys[at%2]]
		l := api.Letter{From: long, Serial: last - uint64(mostWaiting/2-1-at/2), Kind: math.MinInt64, Args: []int64{math.MinInt64, 0, -1, math.MaxInt64}}
		m.list = append(m.list, outbox.Out{To: keys[at%2], Letter: l})
	}
	wantOutbox(t, "at the limits", mustDecode(t, m.form()), m)
}

// to is a letter from me to a key.
func to(key string, serial uint64) outbox.Out {
	return outbox.Out{To: key, Letter: api.Letter{From: "me", Serial: serial}}
}

// rows are count targets, rising, with the serial 3.
func rows(count int) []target {
	var list []target
	for at := range count {
		list = append(list, target{"t" + strconv.Itoa(1000+at), 3})
	}
	return list
}

// toOne are the last count letters of a hundred to b.
func toOne(count int) []outbox.Out {
	var list []outbox.Out
	for at := range count {
		list = append(list, to("b", uint64(100-count+1+at)))
	}
	return list
}

func TestDecodeOfPartsThatAnOutboxMayHave(t *testing.T) {
	b2 := []target{{"b", 2}}
	good := []struct {
		why     string
		targets []target
		list    []outbox.Out
	}{
		{"nothing", nil, nil},
		{"a key alone", b2, nil},
		{"the last letter", b2, []outbox.Out{to("b", 2)}},
		{"both letters", b2, []outbox.Out{to("b", 1), to("b", 2)}},
		{"to two keys", []target{{"b", 2}, {"c", 9}}, []outbox.Out{to("c", 8), to("b", 2), to("c", 9)}},
		{"to the owner", []target{{"me", 1}}, []outbox.Out{to("me", 1)}},
		{"64 keys", rows(mostTargets), nil},
		{"32 letters", []target{{"b", 100}}, toOne(mostWaiting)},
		{"the greatest serial", []target{{"b", math.MaxUint64}}, []outbox.Out{to("b", math.MaxUint64)}},
	}
	for _, x := range good {
		m := newModel("me")
		for _, y := range x.targets {
			m.last[y.key] = y.last
		}
		m.list = x.list
		wantOutbox(t, x.why, mustDecode(t, formOf("me", x.targets, x.list)), m)
	}
}

func TestDecodeOfPartsThatNoOutboxHas(t *testing.T) {
	b2 := []target{{"b", 2}}
	from := func(who string) []outbox.Out {
		return []outbox.Out{{To: "b", Letter: api.Letter{From: who, Serial: 2}}}
	}
	wrong := []struct {
		why     string
		targets []target
		list    []outbox.Out
	}{
		{"a serial 0", []target{{"b", 0}}, nil},
		{"a serial 0, and its letter", []target{{"b", 0}}, []outbox.Out{to("b", 0)}},
		{"a serial 0 behind another", []target{{"a", 1}, {"b", 0}}, nil},
		{"a key without bytes", []target{{"", 1}}, nil},
		{"a key without bytes, and a letter to it", []target{{"", 1}}, []outbox.Out{to("", 1)}},
		{"a key of 41 bytes", []target{{strings.Repeat("k", mostKey+1), 1}}, nil},
		{"keys falling", []target{{"c", 1}, {"b", 1}}, nil},
		{"a key twice", []target{{"b", 1}, {"b", 1}}, nil},
		{"a key twice, other serials", []target{{"b", 1}, {"b", 2}}, nil},
		{"the longer one first", []target{{"bb", 1}, {"b", 1}}, nil},
		{"the last of three falls", []target{{"b", 1}, {"d", 1}, {"c", 1}}, nil},
		{"65 keys", rows(mostTargets + 1), nil},
		{"300 keys", rows(300), nil},
		{"33 letters", []target{{"b", 100}}, toOne(mostWaiting + 1)},
		{"100 letters", []target{{"b", 100}}, toOne(100)},
		{"a letter without a key that has serials", nil, []outbox.Out{to("b", 1)}},
		{"a letter to another key", b2, []outbox.Out{to("c", 1)}},
		{"a letter to another key, with that serial", b2, []outbox.Out{to("c", 2)}},
		{"a letter to no key", b2, []outbox.Out{to("", 2)}},
		{"not the last serial", b2, []outbox.Out{to("b", 1)}},
		{"behind the last serial", b2, []outbox.Out{to("b", 3)}},
		{"serial 0", b2, []outbox.Out{to("b", 0)}},
		{"not in order", b2, []outbox.Out{to("b", 2), to("b", 1)}},
		{"the last serial twice", b2, []outbox.Out{to("b", 2), to("b", 2)}},
		{"more than were sent", b2, []outbox.Out{to("b", 0), to("b", 1), to("b", 2)}},
		{"more than were sent, round the numbers", []target{{"b", 1}}, []outbox.Out{to("b", math.MaxUint64), to("b", 0), to("b", 1)}},
		{"one between is gone", []target{{"b", 3}}, []outbox.Out{to("b", 1), to("b", 3)}},
		{"one of two keys is wrong", []target{{"b", 2}, {"c", 2}}, []outbox.Out{to("b", 2), to("c", 1)}},
		{"the keys' serials are changed", []target{{"b", 2}, {"c", 1}}, []outbox.Out{to("b", 1), to("c", 2)}},
		{"from outside", b2, from("")},
		{"from another", b2, from("you")},
		{"from the one it goes to", b2, from("b")},
		{"from one whose key begins so", b2, from("me2")},
		{"from one with whose key it begins", b2, from("m")},
		{"from a text of 41 bytes", b2, from(strings.Repeat("k", mostKey+1))},
		{"five Args", b2, []outbox.Out{{To: "b", Letter: api.Letter{From: "me", Serial: 2, Args: make([]int64, mostArgs+1)}}}},
	}
	for _, x := range wrong {
		wantNoOutbox(t, x.why, formOf("me", x.targets, x.list))
	}
	for _, owner := range texts() {
		if !isKey(owner) {
			wantNoOutbox(t, "the owner is no key", formOf(owner, nil, nil))
			own := []outbox.Out{{To: "b", Letter: api.Letter{From: owner, Serial: 2}}}
			wantNoOutbox(t, "the owner is no key", formOf(owner, b2, own))
		}
	}
}

func TestDecodeOfOtherBytes(t *testing.T) {
	wantNoOutbox(t, "nil", nil)
	others := []struct {
		why  string
		form string
	}{
		{"nothing", ""},
		{"no owner", "00"},
		{"the owner alone", "02 6d65"},
		{"the owner is no text", "03 6d65"},
		{"no letters' number", "02 6d65 00"},
		{"a byte behind", "02 6d65 00 00 00"},
		{"one key, and none is there", "02 6d65 01"},
		{"one key, and a letters' number", "02 6d65 01 00"},
		{"one key without a serial", "02 6d65 01 0162"},
		{"one key, two are there", "02 6d65 01 0162 01 0163 01 00"},
		{"two keys, one is there", "02 6d65 02 0162 01 00"},
		{"2^64 - 1 keys", "02 6d65 ffffffffffffffffff 0162 01 00"},
		{"256 + 1 keys", "02 6d65 f90101 0162 01 00"},
		{"a key's serial is no number", "02 6d65 01 0162 f801 00"},
		{"how many keys is no number", "02 6d65 f801 0162 01 00"},
		{"one letter, none is there", "02 6d65 01 0162 01 01"},
		{"one letter, its key alone", "02 6d65 01 0162 01 01 0162"},
		{"one letter, two are there", "02 6d65 01 0162 02 01 0162 06 026d65 01 00 00 0162 06 026d65 02 00 00"},
		{"two letters, one is there", "02 6d65 01 0162 01 02 0162 06 026d65 01 00 00"},
		{"2^64 - 1 letters", "02 6d65 01 0162 01 ffffffffffffffffff 0162 06 026d65 01 00 00"},
		{"256 + 1 letters", "02 6d65 01 0162 01 f90101 0162 06 026d65 01 00 00"},
		{"how many letters is no number", "02 6d65 01 0162 01 f801 0162 06 026d65 01 00 00"},
		{"a letter that is no text", "02 6d65 01 0162 01 01 0162 026d65 01 00 00"},
		{"a letter without bytes", "02 6d65 01 0162 01 01 0162 00"},
		{"a letter's text is too short", "02 6d65 01 0162 01 01 0162 05 026d65 01 00 00"},
		{"a letter's text is too long", "02 6d65 01 0162 01 01 0162 07 026d65 01 00 00"},
		{"a byte in a letter's text behind it", "02 6d65 01 0162 01 01 0162 07 026d65 01 00 00 00"},
		{"a byte behind the last letter", "02 6d65 01 0162 01 01 0162 06 026d65 01 00 00 00"},
		{"a letter's serial has a second form", "02 6d65 01 0162 01 01 0162 07 026d65 f801 00 00"},
	}
	for _, x := range others {
		wantNoOutbox(t, x.why, unhex(t, x.form))
	}
}

func TestDecodeOfLessOrMore(t *testing.T) {
	for _, m := range someModels(t) {
		b := m.form()
		for size := range b {
			wantNoOutbox(t, "a beginning", b[:size])
		}
		for _, more := range []byte{0, 1, 0xf7, 0xf8, 0xff} {
			wantNoOutbox(t, "a byte behind", append(slices.Clone(b), more))
		}
	}
}

// replayed makes an outbox by calls of Send and Pop alone, that should tell these
// parts; false, if the calls can't bring it about.
func replayed(t *testing.T, owner string, targets []target, list []outbox.Out) (*outbox.Outbox, bool) {
	t.Helper()
	o, e := outbox.New(owner)
	if e != api.OK {
		return nil, false
	}
	waiting := map[string]uint64{}
	for _, x := range list {
		waiting[x.To]++
	}
	for _, x := range targets {
		for n := waiting[x.key]; n < x.last; n++ {
			if _, e := o.Send(x.key, 0, nil); e != api.OK {
				return nil, false
			}
			o.Pop()
		}
	}
	for _, x := range list {
		if _, e := o.Send(x.To, x.Letter.Kind, x.Letter.Args); e != api.OK {
			return nil, false
		}
	}
	return o, true
}

// listsOf goes through all lists of at most that many of these things.
func listsOf[T any](things []T, most int) [][]T {
	lists := [][]T{nil}
	for from := 0; most > 0; most-- {
		to := len(lists)
		for _, list := range lists[from:to] {
			for _, x := range things {
				lists = append(lists, append(slices.Clone(list), x))
			}
		}
		from = to
	}
	return lists
}

// TestDecodeOfAllSmallParts holds Decode against outboxes that were made by calls,
// over all small lists of keys and of letters, right ones and wrong ones.
func TestDecodeOfAllSmallParts(t *testing.T) {
	var some []target
	for _, key := range []string{"", "a", "b"} {
		for last := range uint64(4) {
			some = append(some, target{key, last})
		}
	}
	var mine, all []outbox.Out
	for _, key := range []string{"a", "b", "c"} {
		for serial := range uint64(4) {
			mine = append(mine, to(key, serial))
			all = append(all, to(key, serial), outbox.Out{To: key, Letter: api.Letter{From: "a", Serial: serial}})
		}
	}
	lists := append(listsOf(all, 2), listsOf(mine[:8], 3)...)
	good := 0
	for _, targets := range listsOf(some, 2) {
		for _, list := range lists {
			b := formOf("me", targets, list)
			o, ok := replayed(t, "me", targets, list)
			if !ok || !bytes.Equal(o.Encode(), b) {
				wantNoOutbox(t, "no calls tell it", b)
			} else {
				good++
				if back := mustDecode(t, b); !bytes.Equal(back.Encode(), b) || !allAlike(back.All(), o.All()) {
					t.Errorf("%x came back as %x, %v", b, back.Encode(), back.All())
				}
			}
			if t.Failed() {
				return
			}
		}
	}
	if good < 100 {
		t.Errorf("only %d outboxes", good)
	}
}

// modelOf reads the model of bytes, in a way of its own; false, if an outbox never tells them.
func modelOf(b []byte) (*model, bool) {
	r := codec.NewReader(b)
	m := newModel(r.Text())
	var keys []string
	for n := r.Number(); n > 0 && !r.Bad(); n-- {
		key := r.Text()
		keys = append(keys, key)
		m.last[key] = r.Number()
		if !isKey(key) || m.last[key] == 0 {
			return nil, false
		}
	}
	serials := map[string][]uint64{}
	for n := r.Number(); n > 0 && !r.Bad(); n-- {
		key := r.Text()
		l, e := letter.Decode([]byte(r.Text()))
		if e != api.OK || l.From != m.owner {
			return nil, false
		}
		serials[key] = append(serials[key], l.Serial)
		m.list = append(m.list, outbox.Out{To: key, Letter: l})
	}
	for key, list := range serials {
		for at, s := range list {
			// As numbers these may go round: then a serial is too great or 0.
			if s == 0 || s > m.last[key] || m.last[key]-s != uint64(len(list)-1-at) {
				return nil, false
			}
		}
	}
	rising := slices.Equal(keys, slices.Sorted(maps.Keys(m.last)))
	return m, r.End() && isKey(m.owner) && rising && len(keys) <= mostTargets && len(m.list) <= mostWaiting
}

// TestDecodeOfNearlyRightBytes changes one byte, or none, of outboxes of all kinds.
func TestDecodeOfNearlyRightBytes(t *testing.T) {
	r := rand.New(rand.NewSource(43))
	good := 0
	for range 20000 {
		p := newPair(t, "me")
		keys := 1 + r.Intn(6)
		for range r.Intn(20) {
			p.send("any", strconv.Itoa(r.Intn(keys)), int64(r.Uint64())>>r.Intn(64), someArgs(r.Intn(9))...)
			if r.Intn(3) == 0 {
				p.pop("any")
			}
		}
		b := p.o.Encode()
		if r.Intn(4) > 0 {
			b[r.Intn(len(b))] ^= byte(1 << r.Intn(8))
		}
		if m, ok := modelOf(b); ok {
			good++
			wantOutbox(t, "nearly right", mustDecode(t, b), m)
		} else {
			wantNoOutbox(t, "nearly right", b)
		}
		if t.Failed() {
			return
		}
	}
	if good < 5000 || good > 19000 {
		t.Errorf("%d outboxes", good)
	}
}

func TestDecodeUndoesEncode(t *testing.T) {
	r := rand.New(rand.NewSource(44))
	for range 300 {
		p := newPair(t, strings.Repeat("é", 1+r.Intn(20)))
		keys := 1 + r.Intn(100)
		for range r.Intn(300) {
			p.send("any", keyAt(r.Intn(keys)), int64(r.Uint64())>>r.Intn(64), someArgs(r.Intn(9))...)
			if r.Intn(2) == 0 {
				p.pop("any")
			}
		}
		wantOutbox(t, "there and back", mustDecode(t, p.o.Encode()), p.m)
	}
}

// R2: the object's history alone.

func TestEachOutboxIsForItself(t *testing.T) {
	a, b := newPair(t, "me"), newPair(t, "me")
	a.send("a", "x", 1)
	b.same("b")
	b.send("b", "x", 2)
	b.send("b", "y", 2)
	a.same("a")
	c, d := mustDecode(t, b.o.Encode()), mustDecode(t, b.o.Encode())
	c.Pop()
	c.Send("z", 1, nil)
	wantOutbox(t, "d", d, b.m)
}

func TestACopyOfAnOutboxIsForItself(t *testing.T) {
	for _, count := range []int{0, 3, mostWaiting - 1} {
		p := newPair(t, "me")
		p.fillWaiting(count)
		o := *p.o
		second := pair{t, &o, p.m.clone()}
		p.send("first", "first", 1, 1, 2)
		second.same("second")
		second.send("second", "second", 2, 3, 4)
		p.same("first")
		out, _ := p.o.First()
		fillOut([]outbox.Out{out})
		p.pop("first")
		second.same("second")
		p.send("first", keyAt(0), 1)
		second.same("second")
		p.same("first")
	}
}

func TestAnswersStayTheSame(t *testing.T) {
	p := newPair(t, "me")
	p.fillTargets(mostTargets)
	p.fillWaiting(mostWaiting)
	for range 3 {
		p.same("again")
		wantOutbox(t, "decoded again", mustDecode(t, p.m.form()), p.m)
	}
}

// R3: memory.

// fillBytes overwrites bytes and their spare room.
func fillBytes(b []byte) {
	b = b[:cap(b)]
	for at := range b {
		b[at] = 0xee
	}
}

// fillArgs overwrites arguments and their spare room.
func fillArgs(args []int64) {
	args = args[:cap(args)]
	for at := range args {
		args[at] = -777
	}
}

// fillOut overwrites letters with their arguments, and their spare room.
func fillOut(list []outbox.Out) {
	list = list[:cap(list)]
	for at := range list {
		fillArgs(list[at].Letter.Args)
		list[at] = outbox.Out{To: "filled"}
	}
}

func TestSentArgsStayAsTheyAreAndAreNotKept(t *testing.T) {
	for size := range mostArgs + 3 {
		p := newPair(t, "me")
		room := []int64{1, 2, 3, 4, 5, 6, 7, 8}
		p.send("room", "b", 0, room[:size]...)
		if !slices.Equal(room, []int64{1, 2, 3, 4, 5, 6, 7, 8}) {
			t.Errorf("%d args: changed to %v", size, room)
		}
		fillArgs(room)
		p.same("filled behind the Send")
	}
}

func TestTextsAreNewMemory(t *testing.T) {
	owner, to := strings.Repeat("o", mostKey), strings.Repeat("k", mostKey)
	o, _ := outbox.New(owner)
	if _, e := o.Send(to, 0, nil); e != api.OK {
		t.Fatal(e)
	}
	first, _ := o.First()
	all := o.All()
	last, _ := o.Pop()
	seen := map[*byte]string{unsafe.StringData(owner): owner, unsafe.StringData(to): to}
	for _, s := range []string{first.To, first.Letter.From, all[0].To, all[0].Letter.From, last.To, last.Letter.From, o.Owner(), o.Owner()} {
		if s != owner && s != to || seen[unsafe.StringData(s)] != "" {
			t.Errorf("%q is shared", s)
		}
		seen[unsafe.StringData(s)] = s
	}
}

// TestGivenTextsAreNotKept changes texts behind the calls to which they were given.
func TestGivenTextsAreNotKept(t *testing.T) {
	owner, to := []byte("me"), []byte("b")
	o, e := outbox.New(unsafe.String(&owner[0], len(owner)))
	if e != api.OK {
		t.Fatal(e)
	}
	if _, e := o.Send(unsafe.String(&to[0], len(to)), 0, nil); e != api.OK {
		t.Fatal(e)
	}
	fillBytes(owner)
	fillBytes(to)
	m := newModel("me")
	m.send("b", 0, nil)
	wantOutbox(t, "the texts were filled", o, m)
}

func TestFirstIsNewMemory(t *testing.T) {
	p := newPair(t, "me")
	p.fillWaiting(mostWaiting)
	for range mostWaiting {
		out, _ := p.o.First()
		fillArgs(out.Letter.Args)
		p.same("First's answer was filled")
		p.pop("First's answer was filled")
	}
}

func TestPoppedIsNewMemory(t *testing.T) {
	p := newPair(t, "me")
	p.fillWaiting(mostWaiting)
	was := copyOf(p.m.list)
	var popped []outbox.Out
	for range mostWaiting {
		out, _ := p.o.Pop()
		p.m.pop()
		popped = append(popped, out)
	}
	p.fillWaiting(mostWaiting)
	if !allAlike(popped, was) {
		t.Errorf("a Send changed what was popped: %v", popped)
	}
	fillOut(popped)
	p.same("Pop's answers were filled")
}

func TestAllIsNewMemory(t *testing.T) {
	for count := range mostWaiting + 1 {
		p := newPair(t, "me")
		p.fillWaiting(count)
		other := p.o.All()
		fillOut(p.o.All())
		p.same("All's answer was filled")
		if !allAlike(other, p.m.list) {
			t.Errorf("two answers of All share memory: %v", other)
		}
		want := copyOf(p.m.list)
		p.send("behind All", "b", 1)
		p.pop("behind All")
		if !allAlike(other, want) {
			t.Errorf("a call changed what All told: %v", other)
		}
		p.same("behind All")
	}
}

func TestListsOfOneAnswerShareNothing(t *testing.T) {
	p := newPair(t, "me")
	p.fillWaiting(mostWaiting)
	all := p.o.All()
	for at := range all {
		fillArgs(all[at].Letter.Args)
		if !allAlike(all[at+1:], p.m.list[at+1:]) {
			t.Fatalf("the Args at %d are shared: %v", at, all)
		}
	}
}

func TestEncodeIsNewMemory(t *testing.T) {
	p := newPair(t, "me")
	p.fillTargets(mostTargets)
	p.fillWaiting(mostWaiting)
	other := p.o.Encode()
	fillBytes(p.o.Encode())
	p.same("Encode's answer was filled")
	if !bytes.Equal(other, p.m.form()) {
		t.Errorf("two answers of Encode share memory: %x", other)
	}
}

func TestDecodedBytesStayAsTheyAreAndAreNotKept(t *testing.T) {
	p := newPair(t, "me")
	p.fillTargets(mostTargets)
	p.fillWaiting(mostWaiting)
	room := append(p.m.form(), 9, 9, 9)
	was := slices.Clone(room)
	b := room[:len(room)-3]
	o := mustDecode(t, b)
	wantNoOutbox(t, "more", room)
	if !bytes.Equal(room, was) {
		t.Errorf("changed: %x; not %x", room, was)
	}
	fillBytes(b)
	wantOutbox(t, "the bytes were filled", o, p.m)
}

// R4: lists of no elements.

func TestNoArgsAreNilOrEmpty(t *testing.T) {
	for _, args := range [][]int64{nil, {}, make([]int64, 0, 9), []int64{7, 8}[:0]} {
		o, _ := outbox.New("me")
		if s, e := o.Send("b", 0, args); s != 1 || e != api.OK {
			t.Errorf("Send of %#v is %d, %v", args, s, e)
		}
		if b := o.Encode(); !bytes.Equal(b, unhex(t, "02 6d65 01 0162 01 01 0162 06 026d65 01 00 00")) {
			t.Errorf("Encode of %#v is %x", args, b)
		}
	}
}

func TestNoBytesAreNilOrEmpty(t *testing.T) {
	for _, b := range [][]byte{nil, {}, make([]byte, 0, 9), []byte{1, 2}[:0]} {
		wantNoOutbox(t, "no bytes", b)
	}
}
