package interp_test

import (
	"fmt"
	"math"
	"math/big"
	"math/rand"
	"reflect"
	"slices"
	"strconv"
	"strings"
	"testing"
	"unsafe"

	"reeve/api"
	"reeve/code"
	"reeve/interp"
	"reeve/journal"
)

// The limits, as DOC.md tells them.
const (
	mostStack = 16
	budget    = 500
	mostEmit  = 4
	mostCode  = 200
	mostNames = 8
	longKey   = 40
	mostArgs  = 4
)

// words is the operations by their numbers, as chapter 17 tells them.
var words = []string{
	"halt", "push", "load", "store", "arg", "kind", "add", "sub", "mul", "less", "equal", "not",
	"dup", "drop", "swap", "jump", "jumpz", "send", "reply", "remind", "cancel", "fail", "now", "serial",
}

// stackUse is how many integers each operation takes and pushes, as the chapter's table tells it.
var stackUse = map[string][2]int{
	"halt": {0, 0}, "push": {0, 1}, "load": {0, 1}, "arg": {0, 1}, "kind": {0, 1}, "now": {0, 1}, "serial": {0, 1},
	"store": {1, 0}, "add": {2, 1}, "sub": {2, 1}, "mul": {2, 1}, "less": {2, 1}, "equal": {2, 1}, "not": {1, 1},
	"dup": {1, 2}, "drop": {1, 0}, "swap": {2, 2}, "jump": {0, 0}, "jumpz": {1, 0}, "send": {2, 0}, "reply": {2, 0},
	"remind": {2, 0}, "cancel": {0, 0}, "fail": {0, 0},
}

// model is a run as the chapter tells it, over words and a list as the stack; what goes wrong is thrown as an Errno.
type model struct {
	stack []int64
	r     interp.Result
}

func (m *model) take() int64 {
	if len(m.stack) == 0 {
		panic(api.ErrStack)
	}
	x := m.stack[len(m.stack)-1]
	m.stack = m.stack[:len(m.stack)-1]
	return x
}

func (m *model) two() (int64, int64) {
	y := m.take()
	return m.take(), y
}

func (m *model) lay(list ...int64) {
	for _, x := range list {
		if len(m.stack) == mostStack {
			panic(api.ErrStack)
		}
		m.stack = append(m.stack, x)
	}
}

// wrapped is an integer modulo 2^64.
func wrapped(n *big.Int) int64 {
	r := new(big.Int).And(n, new(big.Int).SetUint64(math.MaxUint64))
	return int64(r.Uint64())
}

func oneIf(b bool) int64 {
	return map[bool]int64{false: 0, true: 1}[b]
}

func (m *model) emit(s interp.Sent) {
	m.r.Sent = append(m.r.Sent, s)
	if len(m.r.Sent) > mostEmit {
		panic(api.ErrRefused)
	}
}

// expect is what Run should answer.
func expect(p code.Program, state [8]int64, l api.Letter, now int64) (r interp.Result, e api.Errno) {
	if !code.Formed(p) || len(l.From) > longKey || len(l.Args) > mostArgs || now < 0 {
		return interp.Result{}, api.ErrArg
	}
	m := &model{r: interp.Result{State: state}}
	defer func() {
		if thrown, failed := recover().(api.Errno); failed {
			r, e = interp.Result{Steps: m.r.Steps}, thrown
		}
	}()
	for place := 0; place >= 0 && place < len(p.Code); {
		if m.r.Steps == budget {
			panic(api.ErrBudget)
		}
		m.r.Steps++
		place = m.do(p, words[p.Code[place].Op], p.Code[place].Arg, l, now, place)
	}
	return m.r, api.OK
}

// do does an instruction, and answers the next place; -1, if it halts.
func (m *model) do(p code.Program, word string, arg int64, l api.Letter, now int64, place int) int {
	switch word {
	case "halt":
		return -1
	case "push":
		m.lay(arg)
	case "load":
		m.lay(m.r.State[arg])
	case "arg":
		m.lay(append(slices.Clone(l.Args), 0, 0, 0, 0)[arg])
	case "kind":
		m.lay(l.Kind)
	case "now":
		m.lay(now)
	case "serial":
		m.lay(wrapped(new(big.Int).SetUint64(l.Serial)))
	case "store":
		x := m.take()
		m.r.State[arg] = x
		m.r.Events = append(m.r.Events, journal.Event{Register: int(arg), Value: x})
	case "add", "sub", "mul":
		x, y := m.two()
		a, b := big.NewInt(x), big.NewInt(y)
		m.lay(wrapped(map[string]*big.Int{"add": new(big.Int).Add(a, b), "sub": new(big.Int).Sub(a, b), "mul": new(big.Int).Mul(a, b)}[word]))
	case "less":
		x, y := m.two()
		m.lay(oneIf(x < y))
	case "equal":
		x, y := m.two()
		m.lay(oneIf(x == y))
	case "not":
		m.lay(oneIf(m.take() == 0))
	case "dup":
		x := m.take()
		m.lay(x, x)
	case "drop":
		m.take()
	case "swap":
		x, y := m.two()
		m.lay(y, x)
	case "jump":
		return int(arg)
	case "jumpz":
		if m.take() == 0 {
			return int(arg)
		}
	case "send":
		kind, x := m.two()
		m.emit(interp.Sent{To: p.Names[arg], Kind: kind, Arg: x})
	case "reply":
		kind, x := m.two()
		if l.From != "" {
			m.emit(interp.Sent{To: l.From, Kind: kind, Arg: x})
		}
	case "remind":
		delay, period := m.two()
		due := new(big.Int).Add(big.NewInt(now), big.NewInt(delay))
		if delay < 0 || !due.IsInt64() || period < 1 {
			panic(api.ErrRefused)
		}
		m.r.Timers = append(m.r.Timers, interp.Timer{Name: p.Names[arg], Due: due.Int64(), Period: period, Kind: l.Kind})
	case "cancel":
		m.r.Timers = append(m.r.Timers, interp.Timer{Name: p.Names[arg], Cancel: true})
	case "fail":
		panic(api.ErrRefused)
	}
	return place + 1
}

// same tells whether two answers are alike; lists without members are.
func same(a, b interp.Result) bool {
	return a.State == b.State && a.Steps == b.Steps && slices.Equal(a.Events, b.Events) && slices.Equal(a.Sent, b.Sent) && slices.Equal(a.Timers, b.Timers)
}

// check holds a run against the model.
func check(t *testing.T, p code.Program, state [8]int64, l api.Letter, now int64) (interp.Result, api.Errno) {
	t.Helper()
	got, e := interp.Run(p, state, l, now)
	want, wantE := expect(p, state, l, now)
	if e != wantE || !same(got, want) {
		t.Fatalf("%v over %v, %v at %d: %v %v, not %v %v", p, state, l, now, got, e, want, wantE)
	}
	return got, e
}

// parse makes a program of lines, parted by blanks and commas: "push 1, add".
func parse(t *testing.T, text string) code.Program {
	t.Helper()
	p, line, e := code.Parse(strings.ReplaceAll(text, ", ", "\n"))
	if e != api.OK {
		t.Fatalf("%q: line %d: %v", text, line, e)
	}
	return p
}

// want is a test of a run that halts.
func want(t *testing.T, text string, state [8]int64, l api.Letter, now int64, r interp.Result) {
	t.Helper()
	got, e := interp.Run(parse(t, text), state, l, now)
	if e != api.OK || !same(got, r) {
		t.Errorf("%q over %v, %v at %d: %v %v, not %v", text, state, l, now, got, e, r)
	}
	check(t, parse(t, text), state, l, now)
}

// fails is a test of a run that fails.
func fails(t *testing.T, text string, l api.Letter, now int64, e api.Errno, steps int) {
	t.Helper()
	state := [8]int64{1, 2, 3, 4, 5, 6, 7, 8}
	got, gotE := interp.Run(parse(t, text), state, l, now)
	if gotE != e || !reflect.DeepEqual(got, interp.Result{Steps: steps}) {
		t.Errorf("%q: %v %v, not %v with %d steps", text, got, gotE, e, steps)
	}
	check(t, parse(t, text), state, l, now)
}

// times is a line, that many times.
func times(n int, line string) string {
	return strings.TrimSuffix(strings.Repeat(line+", ", n), ", ")
}

// lines joins parts that have something.
func lines(parts ...string) string {
	return strings.Join(slices.DeleteFunc(parts, func(s string) bool { return s == "" }), ", ")
}

func TestExamples(t *testing.T) {
	want(t, "load 0, arg 0, add, store 0", [8]int64{5}, api.Letter{Args: []int64{3}}, 0, interp.Result{
		State: [8]int64{8}, Steps: 4, Events: []journal.Event{{Register: 0, Value: 8}}})
	fails(t, "jump 0", api.Letter{}, 0, api.ErrBudget, 500)
	fails(t, "drop", api.Letter{}, 0, api.ErrStack, 1)
}

// result tells what the lines leave on the top of the stack.
func result(t *testing.T, text string, l api.Letter, now int64) int64 {
	t.Helper()
	got, e := check(t, parse(t, text+", store 3"), [8]int64{10, 11, 12, 13, 14, 15, 16, 17}, l, now)
	if e != api.OK {
		t.Fatal(text, e)
	}
	return got.State[3]
}

func TestPushingOperations(t *testing.T) {
	l := api.Letter{From: "me", Serial: 7, Kind: -9, Args: []int64{21, 22, 23}}
	for _, c := range []struct {
		text string
		want int64
	}{
		{"push -5", -5}, {"push 9223372036854775807", math.MaxInt64}, {"push -9223372036854775808", math.MinInt64}, {"push 0", 0},
		{"load 0", 10}, {"load 7", 17}, {"load 3", 13},
		{"arg 0", 21}, {"arg 1", 22}, {"arg 2", 23}, {"arg 3", 0},
		{"kind", -9}, {"now", 99}, {"serial", 7},
		{"push 2, push 5, add", 7}, {"push 2, push 5, sub", -3}, {"push 2, push 5, mul", 10}, {"push -2, push 5, mul", -10},
		{"push 9223372036854775807, push 1, add", math.MinInt64},
		{"push -9223372036854775808, push 1, sub", math.MaxInt64},
		{"push 0, push -9223372036854775808, sub", math.MinInt64},
		{"push -9223372036854775808, push -1, mul", math.MinInt64},
		{"push 4294967296, push 4294967296, mul", 0},
		{"push 3037000500, push 3037000500, mul", -9223372036709301616},
		{"push 2, push 5, less", 1}, {"push 5, push 2, less", 0}, {"push 5, push 5, less", 0},
		{"push -1, push 0, less", 1}, {"push -9223372036854775808, push 9223372036854775807, less", 1},
		{"push 9223372036854775807, push -9223372036854775808, less", 0},
		{"push 2, push 5, equal", 0}, {"push 5, push 2, equal", 0}, {"push 5, push 5, equal", 1},
		{"push 0, push -9223372036854775808, equal", 0},
		{"push 0, not", 1}, {"push 1, not", 0}, {"push -1, not", 0}, {"push 7, not, not", 1}, {"push 4294967296, not", 0},
		{"push 4, dup", 4}, {"push 4, dup, drop", 4}, {"push 4, dup, mul", 16}, {"push 8, push 4, dup, drop, drop", 8},
		{"push 4, push 6, drop", 4},
		{"push 4, push 6, swap", 4}, {"push 4, push 6, swap, drop", 6}, {"push 4, push 6, swap, sub", 2},
		{"push 1, push 4, push 6, swap, drop, drop", 1},
	} {
		if got := result(t, c.text, l, 99); got != c.want {
			t.Errorf("%q: %d, not %d", c.text, got, c.want)
		}
	}
}

func TestSerialIsAnInteger(t *testing.T) {
	for _, c := range []struct {
		serial uint64
		want   int64
	}{{0, 0}, {1, 1}, {1<<63 - 1, math.MaxInt64}, {1 << 63, math.MinInt64}, {1<<63 + 1, math.MinInt64 + 1}, {1<<64 - 1, -1}} {
		if got := result(t, "serial", api.Letter{Serial: c.serial}, 0); got != c.want {
			t.Errorf("%d: %d, not %d", c.serial, got, c.want)
		}
	}
}

func TestArgumentsThatAreThere(t *testing.T) {
	all := []int64{-1, 2, math.MinInt64, math.MaxInt64}
	for count := 0; count <= 4; count++ {
		// The members behind the letter's own lie in its spare room.
		l := api.Letter{Args: all[:count:4]}
		for n := range 4 {
			wanted := all[n]
			if n >= count {
				wanted = 0
			}
			if got := result(t, "arg "+strconv.Itoa(n), l, 0); got != wanted {
				t.Errorf("%d of %v: %d, not %d", n, l.Args, got, wanted)
			}
		}
	}
}

func TestKindAndNow(t *testing.T) {
	for _, n := range []int64{0, 1, 5, math.MaxInt64} {
		if got := result(t, "now", api.Letter{Kind: 3}, n); got != n {
			t.Errorf("now %d: %d", n, got)
		}
		for _, k := range []int64{n, -n, math.MinInt64} {
			if got := result(t, "kind", api.Letter{Kind: k}, 7); got != k {
				t.Errorf("kind %d: %d", k, got)
			}
		}
	}
}

func TestRegisters(t *testing.T) {
	for n := range 8 {
		var state, wanted [8]int64
		for i := range state {
			state[i] = int64(100 + i)
		}
		wanted = state
		wanted[n] = -8
		want(t, fmt.Sprintf("push -8, store %d", n), state, api.Letter{}, 0, interp.Result{
			State: wanted, Events: []journal.Event{{Register: n, Value: -8}}, Steps: 2})
		want(t, fmt.Sprintf("load %d, push 1, add, store %d, load %d, store 0", n, n, n), state, api.Letter{}, 0, func() interp.Result {
			r := interp.Result{State: state, Steps: 6}
			r.State[n]++
			r.State[0] = int64(101 + n)
			r.Events = []journal.Event{{Register: n, Value: int64(101 + n)}, {Register: 0, Value: int64(101 + n)}}
			return r
		}())
	}
}

func TestEventsAreEachStoreInOrder(t *testing.T) {
	want(t, "push 5, store 1, push 5, store 1, push 0, store 7, push 6, store 1", [8]int64{0, 5}, api.Letter{}, 0, interp.Result{
		State: [8]int64{0, 6}, Steps: 8,
		Events: []journal.Event{{Register: 1, Value: 5}, {Register: 1, Value: 5}, {Register: 7, Value: 0}, {Register: 1, Value: 6}}})
	// More stores than a journal keeps are all told.
	r := interp.Result{State: [8]int64{100}, Steps: 200}
	var text []string
	for n := range 100 {
		text = append(text, fmt.Sprintf("push %d, store 0", n+1))
		r.Events = append(r.Events, journal.Event{Register: 0, Value: int64(n + 1)})
	}
	want(t, lines(text...), [8]int64{}, api.Letter{}, 0, r)
	got, e := check(t, parse(t, times(99, "push 1, store 0")+", load 1, jumpz 0"), [8]int64{0, 1}, api.Letter{}, 0)
	if e != api.OK || len(got.Events) != 99 {
		t.Error(len(got.Events), e)
	}
	count := "load 0, push 1, add, store 0, load 0, push 60, less, not, jumpz 0"
	got, e = check(t, parse(t, count), [8]int64{}, api.Letter{}, 0)
	if e != api.ErrBudget {
		t.Error(got, e)
	}
	got, e = check(t, parse(t, strings.Replace(count, "60", "55", 1)), [8]int64{}, api.Letter{}, 0)
	if e != api.OK || len(got.Events) != 55 || got.State[0] != 55 || got.Steps != 495 {
		t.Error(got, e)
	}
}

func TestHalting(t *testing.T) {
	want(t, "", [8]int64{1, 2}, api.Letter{}, 0, interp.Result{State: [8]int64{1, 2}})
	want(t, "halt", [8]int64{1}, api.Letter{}, 0, interp.Result{State: [8]int64{1}, Steps: 1})
	want(t, "halt, fail", [8]int64{}, api.Letter{}, 0, interp.Result{Steps: 1})
	want(t, "push 1", [8]int64{}, api.Letter{}, 0, interp.Result{Steps: 1})
	want(t, "push 1, halt, store 0", [8]int64{}, api.Letter{}, 0, interp.Result{Steps: 2})
	want(t, "jump 1", [8]int64{}, api.Letter{}, 0, interp.Result{Steps: 1})
	want(t, "jump 2, fail", [8]int64{}, api.Letter{}, 0, interp.Result{Steps: 1})
	want(t, "push 0, jumpz 3, fail", [8]int64{}, api.Letter{}, 0, interp.Result{Steps: 2})
	// The stack is empty at the beginning, whatever ran ahead.
	for range 3 {
		fails(t, "drop", api.Letter{}, 0, api.ErrStack, 1)
		want(t, "push 1, push 2", [8]int64{}, api.Letter{}, 0, interp.Result{Steps: 2})
	}
}

func TestJumps(t *testing.T) {
	for _, c := range []struct {
		text  string
		got   int64
		steps int
	}{
		{"jump 3, push 1, store 0, push 2, store 0", 2, 3},
		{"push 0, jumpz 4, push 1, store 0, push 2, store 0", 2, 4},
		{"push 1, jumpz 4, push 1, store 0, halt", 1, 5},
		{"push -1, jumpz 0, push 1, store 0", 1, 4},
		{"push 4294967296, jumpz 0, push 1, store 0", 1, 4},
		// It takes its integer, whether or not it jumps.
		{"push 3, push 1, jumpz 0, store 0", 3, 4},
		{"push 3, push 0, jumpz 3, store 0", 3, 4},
		// A loop: 5 times 7, by adding.
		{"push 7, store 1, load 1, jumpz 13, load 1, push 1, sub, store 1, load 0, push 5, add, store 0, jump 2", 35, 81},
	} {
		got, e := check(t, parse(t, c.text), [8]int64{}, api.Letter{}, 0)
		if e != api.OK || got.State[0] != c.got || got.Steps != c.steps {
			t.Errorf("%q: %v %v, not %d with %d steps", c.text, got, e, c.got, c.steps)
		}
	}
}

// At each depth of the stack each operation takes what is there, and pushes what there is room for.
func TestStackBounds(t *testing.T) {
	for op, word := range words {
		use := stackUse[word]
		for depth := 0; depth <= mostStack; depth++ {
			p := code.Program{Names: []string{"b"}}
			for range depth {
				p.Code = append(p.Code, code.Instr{Op: 1, Arg: 1})
			}
			p.Code = append(p.Code, code.Instr{Op: op})
			if word == "jump" || word == "jumpz" {
				p.Code[depth].Arg = int64(depth + 1)
			}
			got, e := check(t, p, [8]int64{}, api.Letter{From: "me"}, 0)
			fits := depth >= use[0] && depth-use[0]+use[1] <= mostStack
			switch {
			case got.Steps != depth+1:
				t.Errorf("%s behind %d: %d steps", word, depth, got.Steps)
			case !fits && e != api.ErrStack, fits && word == "fail" && e != api.ErrRefused, fits && word != "fail" && e != api.OK:
				t.Errorf("%s behind %d: %v", word, depth, e)
			}
		}
	}
	// All sixteen are kept, and taken in turn.
	text := "push 1"
	for n := 2; n <= 16; n++ {
		text += fmt.Sprintf(", push %d", n)
	}
	got, e := check(t, parse(t, text+", "+times(15, "swap, drop")+", store 0"), [8]int64{}, api.Letter{}, 0)
	if e != api.OK || got.State[0] != 16 {
		t.Error(got, e)
	}
	got, e = check(t, parse(t, text+", "+times(15, "drop")+", store 0"), [8]int64{}, api.Letter{}, 0)
	if e != api.OK || got.State[0] != 1 {
		t.Error(got, e)
	}
	fails(t, text+", push 17", api.Letter{}, 0, api.ErrStack, 17)
	fails(t, "push 1, jump 0", api.Letter{}, 0, api.ErrStack, 33)
}

// countdown is a program that spends just so many steps, and then comes to the tail's first place.
func countdown(t *testing.T, steps int, tail string) code.Program {
	t.Helper()
	// A round of the loop is seven steps, and the way into it and out of it four more.
	rounds, rest := (steps-4)/7, (steps-4)%7
	var p code.Program
	put := func(word string, arg int) {
		p.Code = append(p.Code, code.Instr{Op: slices.Index(words, word), Arg: int64(arg)})
	}
	for range rest {
		put("jump", len(p.Code)+1)
	}
	put("push", rounds)
	put("store", 0)
	top := len(p.Code)
	put("load", 0)
	put("jumpz", top+8)
	put("load", 0)
	put("push", 1)
	put("sub", 0)
	put("store", 0)
	put("jump", top)
	// What jumpz goes to stands behind one that is never come to.
	put("fail", 0)
	if len(p.Code) != top+8 {
		t.Fatal(len(p.Code))
	}
	end := parse(t, tail)
	p.Names = end.Names
	for _, in := range end.Code {
		if w := words[in.Op]; w == "jump" || w == "jumpz" {
			in.Arg += int64(top + 8)
		}
		p.Code = append(p.Code, in)
	}
	return p
}

func TestBudget(t *testing.T) {
	for _, c := range []struct {
		steps int
		tail  string
		e     api.Errno
		told  int
	}{
		{499, "", api.OK, 499},
		{500, "", api.OK, 500},
		{501, "", api.ErrBudget, 500},
		{499, "halt", api.OK, 500},
		{500, "halt", api.ErrBudget, 500},
		{499, "halt, fail", api.OK, 500},
		{499, "jump 1", api.OK, 500},
		{499, "jump 0", api.ErrBudget, 500},
		{498, "push 1, store 1", api.OK, 500},
		{499, "push 1, store 1", api.ErrBudget, 500},
		{499, "fail", api.ErrRefused, 500},
		{500, "fail", api.ErrBudget, 500},
		{499, "drop", api.ErrStack, 500},
		{500, "drop", api.ErrBudget, 500},
		{498, "fail", api.ErrRefused, 499},
		{498, "drop", api.ErrStack, 499},
		{497, "name 62, push 0, push 0, remind 0", api.ErrRefused, 500},
		{498, "name 62, push 0, push 0, remind 0", api.ErrBudget, 500},
		{100, "", api.OK, 100},
	} {
		got, e := check(t, countdown(t, c.steps, c.tail), [8]int64{}, api.Letter{}, 0)
		if e != c.e || got.Steps != c.told {
			t.Errorf("%d, then %q: %v with %d, not %v with %d", c.steps, c.tail, e, got.Steps, c.e, c.told)
		}
	}
	fails(t, "jump 1, jump 0", api.Letter{}, 0, api.ErrBudget, 500)
	fails(t, "push 0, jumpz 0", api.Letter{}, 0, api.ErrBudget, 500)
}

func TestLettersSent(t *testing.T) {
	names := "name 62, name 6363, name " + strings.Repeat("ff", longKey)
	long := strings.Repeat("\xff", longKey)
	want(t, names+", push 7, push 8, send 0, push -1, push 0, send 2, push 0, push -1, send 1, push 7, push 8, send 0", [8]int64{}, api.Letter{From: "me", Kind: 3}, 5, interp.Result{
		Sent:  []interp.Sent{{To: "b", Kind: 7, Arg: 8}, {To: long, Kind: -1, Arg: 0}, {To: "cc", Kind: 0, Arg: -1}, {To: "b", Kind: 7, Arg: 8}},
		Steps: 12})
	want(t, "push 1, push 2, reply", [8]int64{}, api.Letter{From: long, Kind: 3}, 5, interp.Result{
		Sent: []interp.Sent{{To: long, Kind: 1, Arg: 2}}, Steps: 3})
	want(t, names+", push 1, push 2, reply, push 3, push 4, send 0, push 5, push 6, reply", [8]int64{}, api.Letter{From: "b"}, 5, interp.Result{
		Sent: []interp.Sent{{To: "b", Kind: 1, Arg: 2}, {To: "b", Kind: 3, Arg: 4}, {To: "b", Kind: 5, Arg: 6}}, Steps: 9})
	want(t, "name 62, name 62, push 9223372036854775807, push -9223372036854775808, send 1", [8]int64{}, api.Letter{}, 0, interp.Result{
		Sent: []interp.Sent{{To: "b", Kind: math.MaxInt64, Arg: math.MinInt64}}, Steps: 3})
	// What lies below the two stays.
	want(t, "name 62, push 9, push 1, push 2, send 0, store 0", [8]int64{}, api.Letter{}, 0, interp.Result{
		State: [8]int64{9}, Events: []journal.Event{{Value: 9}}, Sent: []interp.Sent{{To: "b", Kind: 1, Arg: 2}}, Steps: 5})
}

func TestReplyToNobody(t *testing.T) {
	want(t, "push 1, push 2, reply", [8]int64{}, api.Letter{}, 5, interp.Result{Steps: 3})
	// It takes the two nevertheless, and it is none of the letters that may be sent.
	want(t, "push 9, push 1, push 2, reply, store 0", [8]int64{}, api.Letter{}, 5, interp.Result{
		State: [8]int64{9}, Events: []journal.Event{{Value: 9}}, Steps: 5})
	fails(t, "push 2, reply", api.Letter{}, 5, api.ErrStack, 2)
	want(t, times(20, "push 1, push 2, reply"), [8]int64{}, api.Letter{}, 5, interp.Result{Steps: 60})
	four := "name 62, " + times(4, "push 1, push 2, send 0")
	want(t, four+", push 1, push 2, reply", [8]int64{}, api.Letter{}, 5, interp.Result{
		Sent: slices.Repeat([]interp.Sent{{To: "b", Kind: 1, Arg: 2}}, 4), Steps: 15})
}

func TestTooManyLetters(t *testing.T) {
	me := api.Letter{From: "me"}
	sends := func(n int) string { return times(n, "push 1, push 2, send 0") }
	replies := func(n int) string { return times(n, "push 1, push 2, reply") }
	for n := range 5 {
		text := lines("name 62", sends(n), replies(4-n))
		got, e := check(t, parse(t, text), [8]int64{}, me, 0)
		if e != api.OK || len(got.Sent) != 4 {
			t.Error(text, got, e)
		}
		fails(t, lines(text, sends(1)), me, 0, api.ErrRefused, 15)
		fails(t, lines(text, replies(1)), me, 0, api.ErrRefused, 15)
		// The stack comes first.
		fails(t, lines(text, "push 1, send 0"), me, 0, api.ErrStack, 14)
		fails(t, lines(text, "reply"), me, 0, api.ErrStack, 13)
	}
}

func TestReminders(t *testing.T) {
	l := api.Letter{From: "me", Kind: -4}
	want(t, "name 62, name 63, push 10, push 3, remind 1", [8]int64{}, l, 5, interp.Result{
		Timers: []interp.Timer{{Name: "c", Due: 15, Period: 3, Kind: -4}}, Steps: 3})
	want(t, "name 62, push 0, push 1, remind 0", [8]int64{}, l, 0, interp.Result{
		Timers: []interp.Timer{{Name: "b", Due: 0, Period: 1, Kind: -4}}, Steps: 3})
	// What lies below the two stays.
	want(t, "name 62, push 9, push 1, push 2, remind 0, store 0", [8]int64{}, l, 0, interp.Result{
		State: [8]int64{9}, Events: []journal.Event{{Value: 9}}, Timers: []interp.Timer{{Name: "b", Due: 1, Period: 2, Kind: -4}}, Steps: 5})
	fails(t, "name 62, push 1, remind 0", l, 0, api.ErrStack, 2)
	fails(t, "name 62, push 0, remind 0", l, 0, api.ErrStack, 2)
}

func TestRemindersThatAreRefused(t *testing.T) {
	edges := []int64{math.MinInt64, math.MinInt64 + 1, -5, -1, 0, 1, 4, 5, 6, math.MaxInt64 - 6, math.MaxInt64 - 5, math.MaxInt64 - 4, math.MaxInt64 - 1, math.MaxInt64}
	for _, now := range []int64{0, 1, 5, math.MaxInt64 - 5, math.MaxInt64 - 1, math.MaxInt64} {
		for _, delay := range edges {
			for _, period := range edges {
				due := new(big.Int).Add(big.NewInt(now), big.NewInt(delay))
				text := fmt.Sprintf("name 62, push %d, push %d, remind 0", delay, period)
				if delay < 0 || period < 1 || due.Cmp(big.NewInt(math.MaxInt64)) > 0 {
					fails(t, text, api.Letter{}, now, api.ErrRefused, 3)
				} else {
					want(t, text, [8]int64{}, api.Letter{Kind: 8}, now, interp.Result{
						Timers: []interp.Timer{{Name: "b", Due: due.Int64(), Period: period, Kind: 8}}, Steps: 3})
				}
			}
		}
	}
}

func TestCancelled(t *testing.T) {
	want(t, "name 62, name 63, cancel 1, push 1, push 2, remind 0, cancel 0, cancel 0, push 3, push 4, remind 0", [8]int64{}, api.Letter{Kind: 6}, 10, interp.Result{
		Timers: []interp.Timer{{Name: "c", Cancel: true}, {Name: "b", Due: 11, Period: 2, Kind: 6}, {Name: "b", Cancel: true}, {Name: "b", Cancel: true}, {Name: "b", Due: 13, Period: 4, Kind: 6}}, Steps: 9})
	// The queue's limit isn't a run's: that many are told.
	want(t, "name 62, "+times(200, "cancel 0"), [8]int64{}, api.Letter{}, 0, interp.Result{
		Timers: slices.Repeat([]interp.Timer{{Name: "b", Cancel: true}}, 200), Steps: 200})
	want(t, "name 62, "+times(66, "push 0, push 1, remind 0"), [8]int64{}, api.Letter{}, 0, interp.Result{
		Timers: slices.Repeat([]interp.Timer{{Name: "b", Period: 1}}, 66), Steps: 198})
}

// A run that fails tells its steps alone, whatever it did till then.
func TestFailureIsVoid(t *testing.T) {
	done := "name 62, push 1, store 0, push 1, push 2, send 0, push 1, push 2, reply, push 1, push 2, remind 0, cancel 0"
	l := api.Letter{From: "me"}
	if got, e := check(t, parse(t, done), [8]int64{}, l, 0); e != api.OK || len(got.Events)*len(got.Sent)*len(got.Timers) != 4 || got.Steps != 12 {
		t.Fatal(got, e)
	}
	fails(t, done+", fail", l, 0, api.ErrRefused, 13)
	fails(t, done+", drop", l, 0, api.ErrStack, 13)
	fails(t, done+", push 0, push 0, remind 0", l, 0, api.ErrRefused, 15)
	fails(t, done+", "+times(3, "push 1, push 2, reply"), l, 0, api.ErrRefused, 21)
	fails(t, done+", jump 12", l, 0, api.ErrBudget, 500)
	fails(t, "fail", l, 0, api.ErrRefused, 1)
}

func TestWrongArguments(t *testing.T) {
	good := code.Program{Names: []string{"b"}, Code: []code.Instr{{Op: 0}}}
	refused := func(p code.Program, l api.Letter, now int64) {
		t.Helper()
		got, e := interp.Run(p, [8]int64{1, 2}, l, now)
		if e != api.ErrArg || !reflect.DeepEqual(got, interp.Result{}) {
			t.Errorf("%v, %v at %d: %v %v", p, l, now, got, e)
		}
	}
	for _, in := range []code.Instr{{Op: -1}, {Op: 24}, {Op: math.MaxInt}, {Op: math.MinInt}, {Op: 0, Arg: 1}, {Op: 2, Arg: 8}, {Op: 2, Arg: -1},
		{Op: 3, Arg: 8}, {Op: 3, Arg: -1}, {Op: 4, Arg: 4}, {Op: 4, Arg: -1}, {Op: 6, Arg: 1}, {Op: 15, Arg: -1}, {Op: 15, Arg: 3}, {Op: 16, Arg: 3},
		{Op: 16, Arg: math.MinInt64}, {Op: 17, Arg: 1}, {Op: 17, Arg: -1}, {Op: 19, Arg: 1}, {Op: 20, Arg: 1}, {Op: 21, Arg: 1}, {Op: 23, Arg: math.MaxInt64}} {
		// One that is wrong is wrong also where no run would come to it.
		refused(code.Program{Names: []string{"b"}, Code: []code.Instr{{Op: 0}, in}}, api.Letter{}, 0)
		refused(code.Program{Names: []string{"b"}, Code: []code.Instr{in, {Op: 0}}}, api.Letter{}, 0)
	}
	refused(code.Program{Names: []string{""}}, api.Letter{}, 0)
	refused(code.Program{Names: []string{strings.Repeat("x", longKey+1)}}, api.Letter{}, 0)
	refused(code.Program{Names: slices.Repeat([]string{"b"}, mostNames+1)}, api.Letter{}, 0)
	refused(code.Program{Code: make([]code.Instr, mostCode+1)}, api.Letter{}, 0)
	refused(good, api.Letter{From: strings.Repeat("x", longKey+1)}, 0)
	refused(good, api.Letter{Args: make([]int64, mostArgs+1)}, 0)
	refused(good, api.Letter{}, -1)
	refused(good, api.Letter{}, math.MinInt64)
	refused(code.Program{Code: []code.Instr{{Op: 21}}}, api.Letter{}, -1)
	refused(code.Program{Code: []code.Instr{{Op: 13}}}, api.Letter{Args: make([]int64, mostArgs+1)}, 0)
	want(t, "halt", [8]int64{}, api.Letter{From: strings.Repeat("x", longKey), Args: make([]int64, mostArgs)}, 0, interp.Result{Steps: 1})
	if got, e := interp.Run(code.Program{Names: slices.Repeat([]string{"b"}, mostNames), Code: make([]code.Instr, mostCode)}, [8]int64{}, api.Letter{}, 0); e != api.OK || got.Steps != 1 {
		t.Error(got, e)
	}
}

func TestNilAndEmptyLists(t *testing.T) {
	a, eA := interp.Run(code.Program{}, [8]int64{1}, api.Letter{}, 0)
	b, eB := interp.Run(code.Program{Names: []string{}, Code: []code.Instr{}}, [8]int64{1}, api.Letter{Args: []int64{}}, 0)
	if eA != api.OK || eB != api.OK || !same(a, b) || a.State != [8]int64{1} || a.Steps != 0 {
		t.Error(a, eA, b, eB)
	}
}

// random is a formed program; the steadier, the seldomer its stack is wrong.
func random(r *rand.Rand, steady bool) code.Program {
	var p code.Program
	for range 1 + r.Intn(mostNames) {
		p.Names = append(p.Names, strings.Repeat(string(rune('a'+r.Intn(3))), 1+r.Intn(3)))
	}
	count := r.Intn(40)
	if r.Intn(5) == 0 {
		count = r.Intn(mostCode + 1)
	}
	depth := 0
	for range count {
		op := r.Intn(len(words))
		for steady {
			use := stackUse[words[op]]
			rare := slices.Contains([]string{"fail", "halt", "jump", "remind"}, words[op])
			if (!rare || r.Intn(20) == 0) && (depth >= use[0] && depth-use[0]+use[1] <= mostStack || r.Intn(200) == 0) {
				depth = max(0, depth-use[0]+use[1])
				break
			}
			op = r.Intn(len(words))
		}
		p.Code = append(p.Code, code.Instr{Op: op, Arg: argument(r, words[op], count, len(p.Names))})
	}
	return p
}

// argument is an integer that may stand behind the word.
func argument(r *rand.Rand, word string, count, names int) int64 {
	switch word {
	case "push":
		return number(r)
	case "load", "store":
		return int64(r.Intn(8))
	case "arg":
		return int64(r.Intn(4))
	case "jump", "jumpz":
		return int64(r.Intn(count + 1))
	case "send", "remind", "cancel":
		return int64(r.Intn(names))
	}
	return 0
}

// number is an integer, a small one or one near an edge mostly.
func number(r *rand.Rand) int64 {
	switch r.Intn(8) {
	case 0:
		return math.MaxInt64 - int64(r.Intn(3))
	case 1:
		return math.MinInt64 + int64(r.Intn(3))
	case 2:
		return int64(r.Uint64())
	}
	return int64(r.Intn(7)) - 1
}

func TestRandomRuns(t *testing.T) {
	r := rand.New(rand.NewSource(18))
	seen := map[api.Errno]int{}
	full, long := 0, 0
	for n := range 150000 {
		p := random(r, n%3 != 0)
		l := api.Letter{From: []string{"", "me", "a"}[r.Intn(3)], Serial: r.Uint64() >> r.Intn(64), Kind: number(r)}
		for range r.Intn(mostArgs + 1) {
			l.Args = append(l.Args, number(r))
		}
		var state [8]int64
		for i := range state {
			state[i] = number(r)
		}
		now := number(r) & math.MaxInt64
		got, e := check(t, p, state, l, now)
		seen[e]++
		if len(got.Sent) == mostEmit {
			full++
		}
		if e == api.OK && got.Steps > 40 {
			long++
		}
	}
	for _, e := range []api.Errno{api.OK, api.ErrStack, api.ErrBudget, api.ErrRefused} {
		if seen[e] < 100 {
			t.Error("too few runs end with", e, ":", seen[e])
		}
	}
	if full < 10 || long < 100 {
		t.Error("too few runs that send four letters, or are long:", full, long)
	}
}

// held is text in memory that may be written over.
func held(s string) (string, []byte) {
	b := []byte(s)
	return unsafe.String(unsafe.SliceData(b), len(b)), b
}

// The arguments are as they were, spare room too, and an answer doesn't change with them.
func TestMemory(t *testing.T) {
	name, nameBytes := held("bb")
	from, fromBytes := held("me")
	names := append(make([]string, 0, 4), name)[:1:4]
	instrs := append(make([]code.Instr, 0, 40), parse(t, "name 62, arg 1, store 0, push 7, push 8, send 0, push 1, push 2, reply, push 10, push 3, remind 0, cancel 0").Code...)
	args := append(make([]int64, 0, 4), 5, 6)
	for n := range names[:4] {
		if n >= 1 {
			names[:4][n] = "spare"
		}
	}
	for n := len(instrs); n < cap(instrs); n++ {
		instrs[:cap(instrs)][n] = code.Instr{Op: 21, Arg: 77}
	}
	args[:4][2], args[:4][3] = 77, 78
	p := code.Program{Names: names, Code: instrs}
	l := api.Letter{From: from, Kind: 4, Args: args}
	namesAhead, codeAhead, argsAhead := slices.Clone(names[:4]), slices.Clone(instrs[:cap(instrs)]), slices.Clone(args[:4])

	first, e := interp.Run(p, [8]int64{}, l, 5)
	second, e2 := interp.Run(p, [8]int64{}, l, 5)
	if e != api.OK || e2 != api.OK || !same(first, second) {
		t.Fatal(first, e, second, e2)
	}
	if !slices.Equal(namesAhead, names[:4]) || !slices.Equal(codeAhead, instrs[:cap(instrs)]) || !slices.Equal(argsAhead, args[:4]) || name != "bb" || from != "me" {
		t.Fatal("an argument is another one now")
	}
	wanted := interp.Result{
		State:  [8]int64{6},
		Events: []journal.Event{{Register: 0, Value: 6}},
		Sent:   []interp.Sent{{To: "bb", Kind: 7, Arg: 8}, {To: "me", Kind: 1, Arg: 2}},
		Timers: []interp.Timer{{Name: "bb", Due: 15, Period: 3, Kind: 4}, {Name: "bb", Cancel: true}},
		Steps:  12,
	}
	clear(nameBytes)
	clear(fromBytes)
	clear(instrs[:cap(instrs)])
	clear(names[:4])
	clear(args[:4])
	if !same(first, wanted) {
		t.Error("an answer lies in an argument's memory:", first)
	}
	// What is written into one answer is seen in no other.
	clear(first.Events[:cap(first.Events)])
	clear(first.Sent[:cap(first.Sent)])
	clear(first.Timers[:cap(first.Timers)])
	if !same(second, wanted) {
		t.Error("two answers share memory:", second)
	}
}

func TestTextsOfOneAnswerAreApart(t *testing.T) {
	got, e := interp.Run(parse(t, "name 6262, push 1, push 2, send 0, push 1, push 2, send 0, push 1, push 2, reply, push 1, push 2, reply, push 1, push 2, remind 0, cancel 0"), [8]int64{}, api.Letter{From: "me"}, 0)
	if e != api.OK {
		t.Fatal(e)
	}
	seen := map[*byte]bool{}
	for _, s := range []string{got.Sent[0].To, got.Sent[1].To, got.Sent[2].To, got.Sent[3].To, got.Timers[0].Name, got.Timers[1].Name} {
		if seen[unsafe.StringData(s)] {
			t.Error("two texts of one answer lie in the same memory")
		}
		seen[unsafe.StringData(s)] = true
	}
}

// One run leaves nothing for the next one.
func TestRunsAreApart(t *testing.T) {
	r := rand.New(rand.NewSource(181))
	type given struct {
		p     code.Program
		state [8]int64
		l     api.Letter
	}
	var all []given
	var answers []interp.Result
	var errors []api.Errno
	for range 300 {
		g := given{p: random(r, true), state: [8]int64{number(r), number(r)}, l: api.Letter{From: "a", Kind: number(r), Args: []int64{number(r)}}}
		got, e := interp.Run(g.p, g.state, g.l, 9)
		all, answers, errors = append(all, g), append(answers, got), append(errors, e)
	}
	for _, n := range r.Perm(len(all)) {
		got, e := interp.Run(all[n].p, all[n].state, all[n].l, 9)
		if e != errors[n] || !same(got, answers[n]) {
			t.Errorf("%v: %v %v, not %v %v", all[n], got, e, answers[n], errors[n])
		}
	}
}
