package code_test

import (
	"bytes"
	"encoding/hex"
	"fmt"
	"math"
	"math/big"
	"math/rand"
	"regexp"
	"slices"
	"strings"
	"testing"
	"unsafe"

	"reeve/api"
	"reeve/code"
	"reeve/codec"
)

// The limits, as DOC.md tells them.
const (
	mostNames = 8
	mostCode  = 200
	longKey   = 40
	mostText  = 20000
)

// What an operation's integer may be, as the chapter's table tells it.
const (
	none     = "0"
	any64    = "any"
	register = "0 to 7"
	argument = "0 to 3"
	place    = "a place"
	aName    = "a name"
)

// table is the chapter's table of operations.
var table = []struct{ word, takes string }{
	0: {"halt", none}, 1: {"push", any64}, 2: {"load", register}, 3: {"store", register},
	4: {"arg", argument}, 5: {"kind", none}, 6: {"add", none}, 7: {"sub", none},
	8: {"mul", none}, 9: {"less", none}, 10: {"equal", none}, 11: {"not", none},
	12: {"dup", none}, 13: {"drop", none}, 14: {"swap", none}, 15: {"jump", place},
	16: {"jumpz", place}, 17: {"send", aName}, 18: {"reply", none}, 19: {"remind", aName},
	20: {"cancel", aName}, 21: {"fail", none}, 22: {"now", none}, 23: {"serial", none},
}

// formed is what the document asks of Formed.
func formed(p code.Program) bool {
	if len(p.Names) > mostNames || len(p.Code) > mostCode {
		return false
	}
	for _, name := range p.Names {
		if len(name) == 0 || len(name) > longKey {
			return false
		}
	}
	for _, in := range p.Code {
		if in.Op < 0 || in.Op > 23 {
			return false
		}
		first, last := bounds(p, table[in.Op].takes)
		if in.Arg < first || in.Arg > last {
			return false
		}
	}
	return true
}

// bounds is the least and the greatest integer that may stand there; of none the greatest is below the least.
func bounds(p code.Program, takes string) (int64, int64) {
	switch takes {
	case any64:
		return math.MinInt64, math.MaxInt64
	case register:
		return 0, 7
	case argument:
		return 0, 3
	case place:
		return 0, int64(len(p.Code))
	case aName:
		return 0, int64(len(p.Names)) - 1
	}
	return 0, 0
}

// text is what a formed program's text should be; of another one its lines alike.
func text(p code.Program) string {
	var lines []string
	for _, name := range p.Names {
		lines = append(lines, fmt.Sprintf("name %x\n", name))
	}
	for _, in := range p.Code {
		lines = append(lines, line(in))
	}
	return strings.Join(lines, "")
}

// line is an instruction's line.
func line(in code.Instr) string {
	if table[in.Op].takes == none {
		return table[in.Op].word + "\n"
	}
	return fmt.Sprintf("%s %d\n", table[in.Op].word, in.Arg)
}

// form is the bytes of a program, whether or not it is formed.
func form(p code.Program) []byte {
	w := codec.NewWriter()
	w.Number(uint64(len(p.Names)))
	for _, name := range p.Names {
		w.Text(name)
	}
	w.Number(uint64(len(p.Code)))
	for _, in := range p.Code {
		w.Number(uint64(in.Op))
		w.Int(in.Arg)
	}
	return w.Bytes()
}

// The lines that are right alone, as the chapter tells them, but for an integer's bounds.
var (
	nameLine  = regexp.MustCompile(`^name ((?:[0-9a-f]{2}){1,40})$`)
	bareLine  = regexp.MustCompile(`^(halt|kind|add|sub|mul|less|equal|not|dup|drop|swap|reply|fail|now|serial)$`)
	wholeLine = regexp.MustCompile(`^(push|load|store|arg|jump|jumpz|send|remind|cancel) (0|-?[1-9][0-9]*)$`)
)

// parse is what the document asks of Parse.
func parse(s string) (code.Program, int, api.Errno) {
	if len(s) > mostText {
		return code.Program{}, 0, api.ErrLong
	}
	var p code.Program
	lines := strings.Split(s, "\n")
	if last := len(lines) - 1; lines[last] == "" {
		lines = lines[:last]
	}
	late := false
	for n, l := range lines {
		if m := nameLine.FindStringSubmatch(l); m != nil {
			b, _ := hex.DecodeString(m[1])
			p.Names = append(p.Names, string(b))
			late = late || len(p.Code) > 0
		} else if in, ok := parseInstr(l); ok {
			p.Code = append(p.Code, in)
		} else {
			return code.Program{}, n + 1, api.ErrForm
		}
	}
	if late || !formed(p) {
		return code.Program{}, 0, api.ErrForm
	}
	return p, 0, api.OK
}

// parseInstr is the instruction of a line that is right alone.
func parseInstr(l string) (code.Instr, bool) {
	if bareLine.MatchString(l) {
		return code.Instr{Op: opOf(l)}, true
	}
	m := wholeLine.FindStringSubmatch(l)
	if m == nil {
		return code.Instr{}, false
	}
	n, _ := new(big.Int).SetString(m[2], 10)
	return code.Instr{Op: opOf(m[1]), Arg: n.Int64()}, n.IsInt64()
}

// opOf is the number of a word that is there.
func opOf(word string) int {
	for op, x := range table {
		if x.word == word {
			return op
		}
	}
	panic(word)
}

// same holds two programs against each other, without Same.
func same(a, b code.Program) bool {
	return slices.Equal(a.Names, b.Names) && slices.Equal(a.Code, b.Code)
}

// empty is whether a program is the zero one.
func empty(p code.Program) bool { return len(p.Names) == 0 && len(p.Code) == 0 }

// wantProgram holds all that is told of a program, formed or not, against the document.
func wantProgram(t *testing.T, p code.Program) {
	t.Helper()
	ok := formed(p)
	if code.Formed(p) != ok {
		t.Errorf("Formed(%v) is %v", p, !ok)
	}
	s, es := code.Print(p)
	b, eb := code.Encode(p)
	if !ok {
		if s != "" || es != api.ErrArg || len(b) != 0 || eb != api.ErrArg {
			t.Errorf("of %v: %q, %v, %x, %v", p, s, es, b, eb)
		}
		return
	}
	if s != text(p) || es != api.OK {
		t.Errorf("Print(%v) is %q, %v; not %q", p, s, es, text(p))
	}
	if !bytes.Equal(b, form(p)) || eb != api.OK {
		t.Errorf("Encode(%v) is %x, %v; not %x", p, b, eb, form(p))
	}
	if q, n, e := code.Parse(s); !same(p, q) || n != 0 || e != api.OK {
		t.Errorf("Parse(%q) is %v, %d, %v", s, q, n, e)
	}
	if q, e := code.Decode(b); !same(p, q) || e != api.OK {
		t.Errorf("Decode(%x) is %v, %v", b, q, e)
	}
}

// wantParse holds a Parse against the document, and answers what that asks.
func wantParse(t *testing.T, s string) (int, api.Errno) {
	t.Helper()
	p, n, e := parse(s)
	if q, m, f := code.Parse(s); !same(p, q) || n != m || e != f {
		t.Errorf("Parse(%q) is %v, %d, %v; not %v, %d, %v", s, q, m, f, p, n, e)
	}
	return n, e
}

// wantWrong holds a Parse against ErrForm and this line.
func wantWrong(t *testing.T, s string, want int) {
	t.Helper()
	if p, n, e := code.Parse(s); !empty(p) || n != want || e != api.ErrForm {
		t.Errorf("Parse(%q) is %v, %d, %v; not ErrForm and %d", s, p, n, e, want)
	}
	wantParse(t, s)
}

// wantRight holds a Parse against a program.
func wantRight(t *testing.T, s string, want code.Program) {
	t.Helper()
	if p, n, e := code.Parse(s); !same(p, want) || n != 0 || e != api.OK {
		t.Errorf("Parse(%q) is %v, %d, %v; not %v", s, p, n, e, want)
	}
	wantParse(t, s)
}

// wantNone holds a Decode against ErrForm, beside which there is no program.
func wantNone(t *testing.T, why string, b []byte) {
	t.Helper()
	if p, e := code.Decode(b); !empty(p) || e != api.ErrForm {
		t.Errorf("%s: Decode(%x) is %v, %v", why, b, p, e)
	}
}

// of is a program of these instructions, without names.
func of(list ...code.Instr) code.Program { return code.Program{Code: list} }

// in is an instruction.
func in(op int, arg int64) code.Instr { return code.Instr{Op: op, Arg: arg} }

// someNames are count keys of different lengths.
func someNames(count int) []string {
	var list []string
	for n := range count {
		list = append(list, strings.Repeat(string([]byte{byte(37*n + 200)}), 1+n*13%longKey))
	}
	return list
}

// full is a program with all that there may be: the longest names, and as many instructions, all operations among them.
func full() code.Program {
	var p code.Program
	for n := range mostNames {
		p.Names = append(p.Names, strings.Repeat(string([]byte{byte(255 - n)}), longKey))
	}
	p.Code = make([]code.Instr, mostCode)
	for n := range p.Code {
		op := n % len(table)
		_, last := bounds(p, table[op].takes)
		p.Code[n] = in(op, last)
	}
	return p
}

// edges are integers around the bounds that there are, and the ends.
var edges = []int64{math.MinInt64, math.MinInt64 + 1, -1 << 32, -256, -10, -2, -1, 0, 1, 2, 3, 4, 5, 7, 8, 9, 10, 23, 24, 40, 199, 200, 201, 256, 1 << 32, 1<<32 + 1, math.MaxInt64 - 1, math.MaxInt64}

// anyProgram is a formed program.
func anyProgram(r *rand.Rand) code.Program {
	var p code.Program
	for range r.Intn(mostNames + 1) {
		name := make([]byte, 1+r.Intn(longKey))
		r.Read(name)
		p.Names = append(p.Names, string(name))
	}
	p.Code = make([]code.Instr, r.Intn(1+r.Intn(mostCode+1)))
	for n := range p.Code {
		p.Code[n] = anyInstr(r, p)
	}
	return p
}

// anyInstr is an instruction that may stand in the program.
func anyInstr(r *rand.Rand, p code.Program) code.Instr {
	for {
		op := r.Intn(len(table))
		first, last := bounds(p, table[op].takes)
		switch {
		case first == math.MinInt64:
			return in(op, int64(r.Uint64())>>r.Intn(64))
		case first <= last:
			return in(op, first+r.Int63n(last-first+1))
		}
	}
}

// spoil changes a little of a program.
func spoil(r *rand.Rand, p code.Program) code.Program {
	p = code.Program{Names: slices.Clone(p.Names), Code: slices.Clone(p.Code)}
	switch k := r.Intn(5); {
	case k == 0 && len(p.Names) > 0:
		p.Names[r.Intn(len(p.Names))] = strings.Repeat("x", r.Intn(2*longKey))
	case k == 1:
		p.Names = append(p.Names, someNames(r.Intn(3))...)
	case k == 2 && len(p.Code) > 0:
		p.Code[r.Intn(len(p.Code))].Arg = edges[r.Intn(len(edges))]
	case k == 3 && len(p.Code) > 0:
		p.Code[r.Intn(len(p.Code))].Op = r.Intn(26) - 1
	case k == 4 && len(p.Code) > 0:
		p.Code = p.Code[:r.Intn(len(p.Code))]
	}
	return p
}

func TestExamples(t *testing.T) {
	p := code.Program{Names: []string{"b"}, Code: []code.Instr{in(2, 0), in(1, 1), in(6, 0), in(3, 0)}}
	if s, e := code.Print(p); s != "name 62\nload 0\npush 1\nadd\nstore 0\n" || e != api.OK {
		t.Errorf("%q, %v", s, e)
	}
	if q, n, e := code.Parse("push\n"); !empty(q) || n != 1 || e != api.ErrForm {
		t.Errorf("%v, %d, %v", q, n, e)
	}
	if q, n, e := code.Parse("jump 5\n"); !empty(q) || n != 0 || e != api.ErrForm {
		t.Errorf("%v, %d, %v", q, n, e)
	}
}

func TestLimitsAreTheDocuments(t *testing.T) {
	if api.MaxNames != mostNames || api.MaxCode != mostCode || api.MaxKey != longKey || api.MaxValue != mostText {
		t.Errorf("limits: %d, %d, %d, %d", api.MaxNames, api.MaxCode, api.MaxKey, api.MaxValue)
	}
}

// P17.1: Formed.

func TestTheProgramOfNothingIsFormed(t *testing.T) {
	for _, p := range []code.Program{{}, {Names: []string{}, Code: []code.Instr{}}} {
		if !code.Formed(p) {
			t.Error(p)
		}
		wantProgram(t, p)
	}
}

func TestHowManyNames(t *testing.T) {
	for count := range 2*mostNames + 2 {
		p := code.Program{Names: someNames(count)}
		if code.Formed(p) != (count <= 8) {
			t.Errorf("%d names: %v", count, code.Formed(p))
		}
		wantProgram(t, p)
		p.Code = []code.Instr{in(0, 0), in(17, int64(count)-1)}
		wantProgram(t, p)
	}
}

// TestNamesAreKeys holds names of all lengths, at each place among others.
func TestNamesAreKeys(t *testing.T) {
	for size := range 2*longKey + 5 {
		for at := range mostNames {
			p := code.Program{Names: someNames(mostNames), Code: []code.Instr{in(20, 7)}}
			p.Names[at] = strings.Repeat("k", size)
			if code.Formed(p) != (size >= 1 && size <= 40) {
				t.Errorf("a name of %d bytes: %v", size, code.Formed(p))
			}
			wantProgram(t, p)
		}
	}
}

func TestNamesMayBeAlike(t *testing.T) {
	p := code.Program{Names: []string{"a", "b", "a", "a"}, Code: []code.Instr{in(17, 0), in(19, 2), in(20, 3)}}
	if !code.Formed(p) {
		t.Error(p)
	}
	wantProgram(t, p)
}

func TestNamesOfAllBytes(t *testing.T) {
	for b := range 256 {
		wantProgram(t, code.Program{Names: []string{string([]byte{byte(b)}), string([]byte{byte(b), 0, byte(b)})}})
	}
}

func TestHowManyInstructions(t *testing.T) {
	for _, count := range []int{0, 1, 2, 198, 199, 200, 201, 202, 456, 1000} {
		for _, op := range []int{0, 6, 23} {
			p := of(slices.Repeat([]code.Instr{in(op, 0)}, count)...)
			if code.Formed(p) != (count <= 200) {
				t.Errorf("%d instructions: %v", count, code.Formed(p))
			}
			wantProgram(t, p)
		}
	}
}

// TestBounds holds each operation and each integer near a bound, in programs of several sizes, at the ends and between.
func TestBounds(t *testing.T) {
	for op := range table {
		for _, arg := range edges {
			for _, count := range []int{1, 2, 5, mostCode} {
				for _, names := range []int{0, 1, 3, mostNames} {
					for _, at := range []int{0, count / 2, count - 1} {
						p := code.Program{Names: someNames(names), Code: make([]code.Instr, count)}
						p.Code[at] = in(op, arg)
						wantProgram(t, p)
					}
				}
			}
		}
	}
}

func TestPlacesAndNamesByTheirNumber(t *testing.T) {
	for count := 1; count <= 20; count++ {
		for arg := int64(-3); arg <= 24; arg++ {
			p := of(make([]code.Instr, count)...)
			for _, op := range []int{15, 16} {
				p.Code[0] = in(op, arg)
				if code.Formed(p) != (arg >= 0 && arg <= int64(count)) {
					t.Errorf("place %d of %d", arg, count)
				}
			}
			p = code.Program{Names: someNames(count % 9)}
			for _, op := range []int{17, 19, 20} {
				p.Code = []code.Instr{in(op, arg)}
				if code.Formed(p) != (arg >= 0 && arg < int64(count%9)) {
					t.Errorf("name %d of %d", arg, count%9)
				}
			}
		}
	}
}

func TestNoOtherOperations(t *testing.T) {
	for _, op := range append([]int64{-24, 24, 25, 26, 31, 32, 255, 257, 1<<32 + 6, math.MinInt64 + 6}, edges...) {
		for _, arg := range []int64{0, 1, -1} {
			p := of(in(6, 0), in(int(op), arg), in(7, 0))
			if op < 0 || op > 23 {
				if code.Formed(p) {
					t.Errorf("operation %d", op)
				}
			}
			wantProgram(t, p)
		}
	}
}

// TestOneWrongAmongMany holds one wrong instruction at each place.
func TestOneWrongAmongMany(t *testing.T) {
	for at := range mostCode {
		for _, wrong := range []code.Instr{in(24, 0), in(-1, 0), in(0, 1), in(2, 8), in(15, 201), in(17, 8)} {
			p := full()
			p.Code[at] = wrong
			if code.Formed(p) {
				t.Errorf("%v at %d", wrong, at)
			}
			wantProgram(t, p)
		}
	}
}

func TestFormedAgainstAModel(t *testing.T) {
	r := rand.New(rand.NewSource(71))
	wrong := 0
	for range 4000 {
		p := anyProgram(r)
		wantProgram(t, p)
		p = spoil(r, p)
		if !formed(p) {
			wrong++
		}
		wantProgram(t, p)
	}
	if wrong < 500 {
		t.Errorf("only %d were not formed", wrong)
	}
}

// P17.1: Same.

func TestSameIsAllOfBoth(t *testing.T) {
	list := []code.Program{
		{}, of(in(0, 0)), of(in(0, 0), in(0, 0)), of(in(1, 0)), of(in(1, 1)), of(in(1, 0), in(1, 1)), of(in(1, 1), in(1, 0)),
		{Names: []string{"a"}}, {Names: []string{"b"}}, {Names: []string{"a", "b"}}, {Names: []string{"b", "a"}},
		{Names: []string{"ab"}}, {Names: []string{"a"}, Code: []code.Instr{in(0, 0)}}, {Names: []string{"a"}, Code: []code.Instr{in(17, 0)}},
		full(),
		// Programs that are not formed are alike or not too.
		{Names: []string{""}}, {Names: []string{"", ""}}, of(in(-1, 0)), of(in(24, 0)), of(in(0, 1)), of(make([]code.Instr, 300)...),
	}
	for n, a := range list {
		for m, b := range list {
			c := code.Program{Names: slices.Clone(b.Names), Code: slices.Clone(b.Code)}
			if code.Same(a, c) != (n == m) {
				t.Errorf("Same(%v, %v) is %v", a, c, n != m)
			}
		}
	}
}

// TestSameOfOneDifference changes one thing at each place.
func TestSameOfOneDifference(t *testing.T) {
	a := full()
	for at := range a.Names {
		b := full()
		b.Names[at] = b.Names[at][1:] + "!"
		if code.Same(a, b) || code.Same(b, a) {
			t.Errorf("name %d", at)
		}
	}
	for at := range a.Code {
		b, c := full(), full()
		b.Code[at].Arg++
		c.Code[at].Op++
		if code.Same(a, b) || code.Same(b, a) || code.Same(a, c) || code.Same(c, a) {
			t.Errorf("instruction %d", at)
		}
	}
	b := full()
	b.Names = b.Names[:7]
	c := full()
	c.Code = c.Code[:199]
	if code.Same(a, b) || code.Same(b, a) || code.Same(a, c) || code.Same(c, a) || !code.Same(a, full()) {
		t.Error("the last one")
	}
}

func TestNilAndEmptyAreAlike(t *testing.T) {
	list := []code.Program{{}, {Names: []string{}}, {Code: []code.Instr{}}, {Names: []string{}, Code: []code.Instr{}}, {Names: make([]string, 0, 5), Code: make([]code.Instr, 0, 5)}}
	for _, a := range list {
		for _, b := range list {
			if !code.Same(a, b) {
				t.Errorf("%#v and %#v", a, b)
			}
		}
		wantProgram(t, a)
		a.Names = []string{"a"}
		wantProgram(t, a)
	}
}

// P17.1: Print.

func TestPrintIsTheText(t *testing.T) {
	for _, x := range []struct {
		p    code.Program
		text string
	}{
		{code.Program{}, ""},
		{of(in(0, 0)), "halt\n"},
		{of(in(1, 0)), "push 0\n"},
		{of(in(1, -1)), "push -1\n"},
		{of(in(1, math.MinInt64), in(1, math.MaxInt64)), "push -9223372036854775808\npush 9223372036854775807\n"},
		{code.Program{Names: []string{"a"}}, "name 61\n"},
		{code.Program{Names: []string{"\x00\n\xff\xAb "}}, "name 000affab20\n"},
		{code.Program{Names: []string{"a", "bc"}, Code: []code.Instr{in(17, 1), in(19, 0), in(20, 1)}}, "name 61\nname 6263\nsend 1\nremind 0\ncancel 1\n"},
		{of(in(2, 7), in(3, 0), in(4, 3), in(15, 5), in(16, 0)), "load 7\nstore 0\narg 3\njump 5\njumpz 0\n"},
		{of(in(5, 0), in(6, 0), in(7, 0), in(8, 0), in(9, 0), in(10, 0), in(11, 0), in(12, 0), in(13, 0), in(14, 0), in(18, 0), in(21, 0), in(22, 0), in(23, 0)),
			"kind\nadd\nsub\nmul\nless\nequal\nnot\ndup\ndrop\nswap\nreply\nfail\nnow\nserial\n"},
	} {
		if s, e := code.Print(x.p); s != x.text || e != api.OK {
			t.Errorf("Print(%v) is %q, %v; not %q", x.p, s, e, x.text)
		}
		wantRight(t, x.text, x.p)
		wantProgram(t, x.p)
	}
}

// TestTheGreatestProgram holds that no formed program's text is too long for Parse.
func TestTheGreatestProgram(t *testing.T) {
	p := full()
	wantProgram(t, p)
	for n := range p.Code {
		p.Code[n] = in(1, math.MinInt64)
	}
	wantProgram(t, p)
	if s, _ := code.Print(p); len(s) != 8*(5+80+1)+200*(5+20+1) {
		t.Errorf("%d bytes", len(s))
	}
}

// P17.1: Parse.

func TestParseOfNoLines(t *testing.T) {
	wantRight(t, "", code.Program{})
	wantWrong(t, "\n", 1)
	wantWrong(t, "\n\n", 1)
}

func TestTheLastLineNeedsNoLineFeed(t *testing.T) {
	wantRight(t, "halt", of(in(0, 0)))
	wantRight(t, "halt\n", of(in(0, 0)))
	wantRight(t, "push -5", of(in(1, -5)))
	wantRight(t, "name 6162", code.Program{Names: []string{"ab"}})
	wantRight(t, "name 6162\nsend 0", code.Program{Names: []string{"ab"}, Code: []code.Instr{in(17, 0)}})
	wantWrong(t, "halt\n\n", 2)
	wantWrong(t, "\nhalt", 1)
	wantWrong(t, "halt\n\nhalt\n", 2)
	wantWrong(t, "halt\nhalt\n\n\n", 3)
}

func TestLinesArePartedByLineFeedsAlone(t *testing.T) {
	for _, s := range []string{"halt\r\n", "halt\r", "halt\x00", "halt\vadd", "halt\fadd", "halt;add", "halt add", "halt\u0085", "halt\u2028add", "\ufeffhalt"} {
		wantWrong(t, s, 1)
		wantWrong(t, "add\n"+s, 2)
	}
}

// wrongLines are lines that are right nowhere.
var wrongLines = []string{
	"", " ", "  ", "\t", "x", "0", "-", "HALT", "Halt", "hal", "haltt", " halt", "halt ", "halt  ", "halt\t", "halt 0", "halt 3", "halt -1", "halt halt",
	"add ", "add 0", "nop", "name", "name ", "name  ", "name 6", "name 616", "name 6A", "name 0x61", "name 61 ", "name  61", "name 61 62", "name 6g", "name g6", "name -1",
	"name 6\u0661", "name \u00e9", "Name 61", "names 61", "name61", "name\t61", "name 61\r", "nam 61", " name 61", "name 4A", "name /0", "name 0/", "name :0", "name 0:", "name `0", "name 0`", "name 0@",
	"push", "push ", "push  ", "push  1", "push 1 ", "push 1 2", "push\t1", "push +1", "push +0", "push -0", "push 00", "push 01", "push 05", "push -01", "push -05", "push --1", "push -", "push +",
	"push - 1", "push 1-", "push 0x1", "push 0b1", "push 0o1", "push 1_0", "push 1e3", "push 1.0", "push .", "push a", "push \u0661", "push1", "Push 1", "push -1\r",
	"push 9223372036854775808", "push -9223372036854775809", "push 18446744073709551615", "push 18446744073709551616", "push 99999999999999999999", "push -99999999999999999999",
	"push 09223372036854775807", "push 340282366920938463463374607431768211456", "load", "load ", "load 00", "load x", "load 9223372036854775808", "jump", "jump 01", "jump -0", "jumpz", "jumpz +1", "send", "send name", "send 00",
	"remind", "remind ", "cancel", "cancel -00", "store", "arg", "arg 18446744073709551616",
}

func TestWrongLines(t *testing.T) {
	for _, l := range wrongLines {
		if l != "" {
			wantWrong(t, l, 1)
		}
		wantWrong(t, l+"\n", 1)
		wantWrong(t, "add\n"+l+"\n", 2)
		wantWrong(t, "name 61\nadd\n"+l+"\nadd\n", 3)
		wantWrong(t, l+"\nadd\nadd", 1)
	}
}

// TestWords holds each word with and without an integer, and words near it.
func TestWords(t *testing.T) {
	for op, x := range table {
		for _, tail := range []string{"", " ", " 0", " 1", " -1", " 00", "0", " 0 ", "x", "\r"} {
			wantParse(t, x.word+tail)
			wantParse(t, "halt\nhalt\n"+x.word+tail+"\nhalt\n")
		}
		wantParse(t, strings.ToUpper(x.word))
		wantParse(t, x.word[1:])
		wantParse(t, x.word[:len(x.word)-1])
		if x.takes == none {
			wantRight(t, x.word, of(in(op, 0)))
			wantWrong(t, x.word+" 0", 1)
		} else {
			wantRight(t, "name 61\n"+x.word+" 0", code.Program{Names: []string{"a"}, Code: []code.Instr{in(op, 0)}})
			wantWrong(t, x.word, 1)
		}
	}
}

func TestNamesLinesOfAllLengths(t *testing.T) {
	for digits := range 200 {
		s := "name " + strings.Repeat("a", digits) + "\n"
		if digits%2 == 0 && digits >= 2 && digits <= 80 {
			wantRight(t, s, code.Program{Names: []string{strings.Repeat("\xaa", digits/2)}})
		} else {
			wantWrong(t, s, 1)
			wantWrong(t, "halt\n"+s, 2)
		}
	}
}

// TestHexadecimalDigits holds each byte as each of a byte's two digits.
func TestHexadecimalDigits(t *testing.T) {
	for b := range 256 {
		c := string([]byte{byte(b)})
		wantParse(t, "name "+c+"1\n")
		wantParse(t, "name 1"+c+"\n")
		wantParse(t, "name "+c+c)
		wantParse(t, "name 61"+c+c)
		wantParse(t, "name 61"+c)
		wantParse(t, "name"+c+"61")
		wantParse(t, "push"+c+"1")
		wantParse(t, "push "+c)
		wantParse(t, "push "+c+"1")
		wantParse(t, "push 1"+c)
		wantParse(t, "add"+c)
		wantParse(t, c)
	}
}

func TestIntegersOfLines(t *testing.T) {
	for _, n := range edges {
		wantRight(t, fmt.Sprintf("push %d", n), of(in(1, n)))
		wantRight(t, fmt.Sprintf("halt\npush %d\nhalt\n", n), of(in(0, 0), in(1, n), in(0, 0)))
	}
	for n := int64(-1100); n <= 1100; n++ {
		wantRight(t, fmt.Sprintf("push %d", n), of(in(1, n)))
	}
}

// TestBoundsAreNotAskedOfALine holds that a line with an integer out of its bounds is right alone: the line behind it is told.
func TestBoundsAreNotAskedOfALine(t *testing.T) {
	for _, x := range table {
		if x.takes == none || x.takes == any64 {
			continue
		}
		for _, n := range []int64{-1, 201, math.MinInt64, math.MaxInt64} {
			l := fmt.Sprintf("%s %d\n", x.word, n)
			wantWrong(t, l, 0)
			wantWrong(t, "name 61\n"+l+"halt\n", 0)
			wantWrong(t, l+"x", 2)
			wantWrong(t, l+l+"halt\n\n", 4)
		}
	}
	wantWrong(t, "load 8", 0)
	wantWrong(t, "store 8", 0)
	wantWrong(t, "arg 4", 0)
	wantWrong(t, "jump 2", 0)
	wantWrong(t, "jumpz 2", 0)
	wantWrong(t, "send 0", 0)
	wantWrong(t, "name 61\nremind 1", 0)
	wantWrong(t, "name 61\ncancel 1", 0)
}

func TestANameBehindAnInstruction(t *testing.T) {
	wantWrong(t, "halt\nname 61\n", 0)
	wantWrong(t, "halt\nname 61", 0)
	wantWrong(t, "name 61\nhalt\nname 62\n", 0)
	wantWrong(t, "name 61\nhalt\nname 62\nhalt\n", 0)
	wantWrong(t, "send 0\nname 61\n", 0)
	wantWrong(t, "halt\nname 61\nx\n", 3)
	wantWrong(t, "halt\nname 61\nname 6\n", 3)
	wantWrong(t, "halt\nname 6\nx\n", 2)
}

func TestTooManyLines(t *testing.T) {
	for _, names := range []int{0, 1, 7, 8, 9, 10, 300} {
		for _, count := range []int{0, 1, 199, 200, 201, 202, 1000} {
			s := strings.Repeat("name 61\n", names) + strings.Repeat("add\n", count)
			if n, e := wantParse(t, s); n != 0 || (e == api.OK) != (names <= 8 && count <= 200) {
				t.Errorf("%d names, %d instructions: %d, %v", names, count, n, e)
			}
			wantWrong(t, s+"x", names+count+1)
			wantWrong(t, s+"x\ny\n", names+count+1)
		}
	}
}

// TestTheFirstWrongLine holds one and two wrong lines at each place.
func TestTheFirstWrongLine(t *testing.T) {
	lines := strings.SplitAfter(text(full()), "\n")
	lines = lines[:len(lines)-1]
	for at := range lines {
		list := slices.Clone(lines)
		list[at] = "?\n"
		wantWrong(t, strings.Join(list, ""), at+1)
		list[len(list)-1] = "!"
		wantWrong(t, strings.Join(list, ""), at+1)
	}
}

func TestTooLong(t *testing.T) {
	for _, size := range []int{20001, 20002, 30000, 1 << 20} {
		for _, s := range []string{strings.Repeat("\x00", size), strings.Repeat("\n", size), strings.Repeat("halt\n", size)[:size], "x\n" + strings.Repeat("add\n", size)[:size]} {
			if p, n, e := code.Parse(s); !empty(p) || n != 0 || e != api.ErrLong {
				t.Errorf("%d bytes: %v, %d, %v", len(s), p, n, e)
			}
		}
	}
	for _, size := range []int{19999, 20000} {
		wantWrong(t, strings.Repeat("\x00", size), 1)
		wantWrong(t, strings.Repeat("\n", size), 1)
		wantWrong(t, "push "+strings.Repeat("1", size-5), 1)
		wantWrong(t, "push -"+strings.Repeat("0", size-6), 1)
		wantWrong(t, "name "+strings.Repeat("a", size-5), 1)
		wantWrong(t, strings.Repeat("add\n", 4999)+strings.Repeat("x", size-4999*4), 5000)
	}
	wantWrong(t, strings.Repeat("add\n", 5000), 0)
}

// TestNearlyRightTexts cuts texts, and changes, adds and takes bytes of them.
func TestNearlyRightTexts(t *testing.T) {
	r := rand.New(rand.NewSource(72))
	bytesOf := []byte(" \n\r-+0123456789abcdefghijklmnopqrstuvwxyzAF\x00\xff")
	right, line, whole := 0, 0, 0
	for range 6000 {
		p := anyProgram(r)
		p.Code = p.Code[:min(len(p.Code), 10)]
		b := []byte(text(p))
		for range 1 + r.Intn(2) {
			at := r.Intn(len(b) + 1)
			c := bytesOf[r.Intn(len(bytesOf))]
			switch k := r.Intn(4); {
			case k == 0:
				b = slices.Insert(b, at, c)
			case k == 1 && at < len(b):
				b[at] = c
			case k == 2 && at < len(b):
				b = slices.Delete(b, at, at+1)
			case k == 3:
				b = b[:at]
			}
		}
		switch n, e := wantParse(t, string(b)); {
		case e == api.OK:
			right++
		case n == 0:
			whole++
		default:
			line++
		}
	}
	if right < 500 || line < 500 || whole < 80 {
		t.Errorf("%d right, %d with a wrong line, %d wrong as a whole", right, line, whole)
	}
}

// TestShuffledLines holds lines in any order, some of them wrong.
func TestShuffledLines(t *testing.T) {
	r := rand.New(rand.NewSource(73))
	pool := []string{"name 61", "name 62", "name 6", "halt", "push -7", "load 7", "load 8", "jump 2", "send 0", "send 1", "push", "add", ""}
	for range 20000 {
		var lines []string
		for range r.Intn(6) {
			lines = append(lines, pool[r.Intn(len(pool))])
		}
		wantParse(t, strings.Join(lines, "\n"))
		wantParse(t, strings.Join(lines, "\n")+"\n")
	}
}

// P17.2: as bytes.

func TestEncodeIsTheForm(t *testing.T) {
	for _, x := range []struct {
		p    code.Program
		form string
	}{
		{code.Program{}, "00 00"},
		{of(in(0, 0)), "00 01 0000"},
		{of(in(23, 0)), "00 01 1700"},
		{of(in(1, -1), in(1, 1), in(1, 124), in(1, -124)), "00 04 0101 0102 01f8f8 01f7"},
		{of(in(1, math.MinInt64), in(1, math.MaxInt64)), "00 02 01ffffffffffffffffff 01fffffffffffffffffe"},
		{code.Program{Names: []string{"b"}, Code: []code.Instr{in(2, 0), in(1, 1), in(6, 0), in(3, 0)}}, "01 0162 04 0200 0102 0600 0300"},
		{code.Program{Names: []string{"a", "bc"}, Code: []code.Instr{in(17, 1), in(20, 0), in(15, 3)}}, "02 0161 026263 03 1102 1400 0f06"},
	} {
		want, err := hex.DecodeString(strings.ReplaceAll(x.form, " ", ""))
		if err != nil {
			t.Fatal(err)
		}
		if b, e := code.Encode(x.p); !bytes.Equal(b, want) || e != api.OK {
			t.Errorf("Encode(%v) is %x, %v; not %x", x.p, b, e, want)
		}
		if p, e := code.Decode(want); !same(p, x.p) || e != api.OK {
			t.Errorf("Decode(%x) is %v, %v; not %v", want, p, e, x.p)
		}
	}
}

// TestDecodeOfWhatIsNotFormed holds the bytes of programs that are nearly formed.
func TestDecodeOfWhatIsNotFormed(t *testing.T) {
	for _, p := range []code.Program{
		{Names: []string{""}}, {Names: []string{"a", ""}}, {Names: []string{strings.Repeat("k", 41)}}, {Names: someNames(9)}, {Names: someNames(300)},
		of(make([]code.Instr, 201)...), of(make([]code.Instr, 300)...), of(in(24, 0)), of(in(255, 0)), of(in(256, 0)), of(in(0, 1)), of(in(0, -1)),
		of(in(2, 8)), of(in(2, -1)), of(in(3, 8)), of(in(4, 4)), of(in(15, 2)), of(in(15, -1)), of(in(16, 2)), of(in(17, 0)), of(in(19, 0)), of(in(20, 0)), of(in(23, 1)),
		of(in(-1, 0)), of(in(math.MinInt64, 0)), of(in(math.MinInt64+1, 0)), of(in(1<<32+1, 0)), of(in(1<<32, 0)), of(in(math.MaxInt64, 0)),
		{Names: []string{"a"}, Code: []code.Instr{in(17, 1)}},
	} {
		wantNone(t, "not formed", form(p))
	}
}

// TestDecodeOfWrongParts holds counts and lengths as great as may be.
func TestDecodeOfWrongParts(t *testing.T) {
	for _, n := range []uint64{9, 41, 201, 247, 248, 1 << 16, 1<<32 + 1, math.MaxInt64, 1 << 63, 1<<63 + 1, math.MaxUint64} {
		for _, tail := range []string{"", "\x00", "\x00\x00\x00", strings.Repeat("\x00", 1000), strings.Repeat("\x01", 1000)} {
			w := codec.NewWriter()
			w.Number(n)
			wantNone(t, "names", append(w.Bytes(), tail...))
			w = codec.NewWriter()
			w.Number(1)
			w.Number(n)
			wantNone(t, "a name's length", append(w.Bytes(), tail...))
			w = codec.NewWriter()
			w.Number(0)
			w.Number(n)
			if n > 200 {
				wantNone(t, "instructions", append(w.Bytes(), tail...))
			}
			w = codec.NewWriter()
			w.Number(0)
			w.Number(1)
			w.Number(n)
			if n > 23 {
				wantNone(t, "an operation", append(w.Bytes(), tail...))
			}
		}
	}
}

func TestDecodeOfPartsAndMore(t *testing.T) {
	r := rand.New(rand.NewSource(74))
	list := []code.Program{{}, of(in(0, 0)), full(), {Names: someNames(8)}}
	for range 20 {
		list = append(list, anyProgram(r))
	}
	for _, p := range list {
		b := form(p)
		for n := range b {
			wantNone(t, "a part", b[:n])
		}
		for c := range 256 {
			wantNone(t, "a byte more", append(bytes.Clone(b), byte(c)))
		}
		wantNone(t, "twice", append(bytes.Clone(b), b...))
	}
	wantNone(t, "nothing", nil)
	wantNone(t, "nothing", []byte{})
}

// decode is what the document asks of Decode: there is one program at most whose bytes these are.
func decode(b []byte) (code.Program, bool) {
	r := codec.NewReader(b)
	var p code.Program
	for range min(r.Number(), 1000) {
		p.Names = append(p.Names, r.Text())
	}
	for range min(r.Number(), 1000) {
		p.Code = append(p.Code, in(int(r.Number()), r.Int()))
	}
	return p, formed(p) && bytes.Equal(form(p), b)
}

// wantDecode holds a Decode against the document.
func wantDecode(t *testing.T, b []byte) bool {
	t.Helper()
	want, ok := decode(b)
	if !ok {
		wantNone(t, "no program's", b)
	} else if p, e := code.Decode(b); !same(p, want) || e != api.OK {
		t.Errorf("Decode(%x) is %v, %v; not %v", b, p, e, want)
	}
	return ok
}

func TestDecodeOfAllSmallBytes(t *testing.T) {
	some := []byte{0, 1, 2, 3, 4, 8, 9, 15, 17, 20, 23, 24, 248, 249, 255}
	list := [][]byte{nil}
	for range 5 {
		var longer [][]byte
		for _, b := range list {
			wantDecode(t, b)
			for _, c := range some {
				longer = append(longer, append(bytes.Clone(b), c))
			}
		}
		list = longer
	}
}

func TestDecodeOfNearlyRightBytes(t *testing.T) {
	r := rand.New(rand.NewSource(75))
	right := 0
	for range 8000 {
		p := anyProgram(r)
		p.Code = p.Code[:min(len(p.Code), 12)]
		b := form(p)
		for range 1 + r.Intn(2) {
			at := r.Intn(len(b))
			switch r.Intn(3) {
			case 0:
				b[at] = byte(r.Intn(256))
			case 1:
				b[at] += byte(r.Intn(5) - 2)
			case 2:
				b = slices.Insert(b, at, byte(r.Intn(26)))
			}
		}
		if wantDecode(t, b) {
			right++
		}
	}
	if right < 500 || right > 7500 {
		t.Errorf("%d of 8000 are right", right)
	}
}

// A number's longer form is no number's.
func TestDecodeOfSecondForms(t *testing.T) {
	for _, form := range []string{"f800 00", "00 f800", "00 01 f80000", "00 01 00f800", "f801 0161 00", "01 f80161 00", "00 f80100 00", "00 01 01f90001"} {
		b, err := hex.DecodeString(strings.ReplaceAll(form, " ", ""))
		if err != nil {
			t.Fatal(err)
		}
		wantNone(t, "a second form", b)
	}
}

// P17.3: Parse undoes Print, Decode undoes Encode; also behind each other.

func TestUndone(t *testing.T) {
	r := rand.New(rand.NewSource(76))
	for range 2000 {
		p := anyProgram(r)
		s, e := code.Print(p)
		q, n, f := code.Parse(s)
		if !code.Same(p, q) || n != 0 || e != api.OK || f != api.OK {
			t.Errorf("%v: %q, %v, %v, %d, %v", p, s, e, q, n, f)
		}
		b, e := code.Encode(q)
		q, f = code.Decode(b)
		if !code.Same(p, q) || e != api.OK || f != api.OK {
			t.Errorf("%v: %x, %v, %v, %v", p, b, e, q, f)
		}
	}
}

// R2: what is answered depends on the arguments alone.

func TestAnswersDependOnTheArgumentsAlone(t *testing.T) {
	p, wrong := full(), of(in(0, 1))
	s, _ := code.Print(p)
	b, _ := code.Encode(p)
	for range 3 {
		code.Print(wrong)
		code.Parse("add\nx")
		code.Encode(wrong)
		code.Decode([]byte{0, 1, 0, 2})
		if again, e := code.Print(p); again != s || e != api.OK {
			t.Error("Print answers otherwise")
		}
		if again, e := code.Encode(p); !bytes.Equal(again, b) || e != api.OK {
			t.Error("Encode answers otherwise")
		}
	}
}

// R3: memory.

// roomy is the program in lists with spare room, and a question whether that room is as it was.
func roomy(p code.Program) (code.Program, func() bool) {
	names := append(slices.Clone(p.Names), "spare", "spare")
	instrs := append(slices.Clone(p.Code), in(99, 99), in(99, 99))
	n, c := len(p.Names), len(p.Code)
	q := code.Program{Names: names[:n], Code: instrs[:c]}
	return q, func() bool {
		return same(q, p) && names[n] == "spare" && names[n+1] == "spare" && instrs[c] == in(99, 99) && instrs[c+1] == in(99, 99)
	}
}

func TestArgumentsStayAsTheyWere(t *testing.T) {
	for _, p := range []code.Program{{}, full(), of(in(0, 0)), of(in(0, 1)), {Names: []string{"a", ""}}} {
		q, kept := roomy(p)
		code.Formed(q)
		code.Same(q, q)
		code.Print(q)
		code.Encode(q)
		if !kept() {
			t.Errorf("%v was changed", p)
		}
		b := append(form(p), 7, 7, 7)
		before := bytes.Clone(b)
		code.Decode(b[:len(b)-3])
		code.Decode(b)
		if !bytes.Equal(b, before) {
			t.Errorf("%x was changed", before)
		}
	}
}

func TestDecodeKeepsNoBytes(t *testing.T) {
	p := full()
	b := form(p)
	q, _ := code.Decode(b)
	for n := range b {
		b[n] = 0xee
	}
	if !same(p, q) {
		t.Errorf("%v", q)
	}
}

// TestParseKeepsNoText makes the text in memory of its own, and changes that behind Parse.
func TestParseKeepsNoText(t *testing.T) {
	p := full()
	b := []byte(text(p))
	q, _, _ := code.Parse(unsafe.String(&b[0], len(b)))
	for n := range b {
		b[n] = 0xee
	}
	if !same(p, q) {
		t.Errorf("%v", q)
	}
}

// TestPrintKeepsNoNames changes the names behind Print and Encode.
func TestPrintKeepsNoNames(t *testing.T) {
	b := []byte("abcdef")
	p := code.Program{Names: []string{unsafe.String(&b[0], len(b))}}
	s, _ := code.Print(p)
	e, _ := code.Encode(p)
	for n := range b {
		b[n] = 0xee
	}
	if s != "name 616263646566\n" || string(e) != "\x01\x06abcdef\x00" {
		t.Errorf("%q, %x", s, e)
	}
}

// fill fills a program's lists, their spare room too.
func fill(p code.Program) {
	names, instrs := p.Names[:cap(p.Names)], p.Code[:cap(p.Code)]
	for n := range names {
		names[n] = "?"
	}
	for n := range instrs {
		instrs[n] = in(-7, -7)
	}
}

func TestAnswersAreNewMemory(t *testing.T) {
	for _, p := range []code.Program{{}, full(), {Names: someNames(3)}, of(in(0, 0), in(1, 5))} {
		s, b := text(p), form(p)
		for range 2 {
			x, _, _ := code.Parse(s)
			y, _ := code.Decode(b)
			z, _ := code.Encode(p)
			if !same(x, p) || !same(y, p) || !bytes.Equal(z, b) {
				t.Errorf("of %v: %v, %v, %x", p, x, y, z)
			}
			fill(x)
			fill(y)
			z = z[:cap(z)]
			for n := range z {
				z[n] = 0xee
			}
		}
		wantProgram(t, p)
	}
}

// TestNamesShareNoMemory holds that no two names of one answer lie in the same memory,
// nor in another answer's or the text's.
func TestNamesShareNoMemory(t *testing.T) {
	p := code.Program{Names: slices.Repeat([]string{"abc"}, mostNames)}
	s, b := text(p), form(p)
	x, _, _ := code.Parse(s)
	y, _ := code.Decode(b)
	z, _ := code.Decode(b)
	var at []uintptr
	for _, name := range slices.Concat(p.Names[:1], x.Names, y.Names, z.Names) {
		at = append(at, uintptr(unsafe.Pointer(unsafe.StringData(name))))
	}
	slices.Sort(at)
	for n := 1; n < len(at); n++ {
		if at[n]-at[n-1] < 3 {
			t.Errorf("two names at %x and %x", at[n-1], at[n])
		}
	}
}
