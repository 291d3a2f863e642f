package activ_test

import (
	"math"
	"math/rand"
	"slices"
	"strconv"
	"strings"
	"testing"
	"unsafe"

	"reeve/activ"
)

// mostKeys is the bound that the chapter tells.
const mostKeys = 10000

// model is what a table should hold: how many keys at most, and those that are
// there, who was touched last last.
type model struct {
	most int
	keys []string
}

// touch is what the chapter asks of Touch.
func (m *model) touch(key string) (string, bool) {
	m.drop(key)
	m.keys = append(m.keys, key)
	if len(m.keys) <= m.most {
		return "", false
	}
	first := m.keys[0]
	m.keys = m.keys[1:]
	return first, true
}

// drop is what the chapter asks of Drop.
func (m *model) drop(key string) bool {
	at := slices.Index(m.keys, key)
	if at < 0 {
		return false
	}
	m.keys = slices.Concat(m.keys[:at], m.keys[at+1:])
	return true
}

// pair is a table beside what it should be: each call goes to both.
type pair struct {
	t *testing.T
	x *activ.Table
	m *model
}

// newPair is a new table, for a count of keys that lies within the bounds.
func newPair(t *testing.T, most int) pair {
	t.Helper()
	x := activ.New(most)
	if x == nil {
		t.Fatalf("New(%d) is nil", most)
	}
	return pair{t, x, &model{most: most}}
}

// with is a table in which these were touched, one behind the other.
func with(t *testing.T, most int, keys ...string) pair {
	t.Helper()
	p := newPair(t, most)
	for _, key := range keys {
		p.touch("with", key)
	}
	return p
}

// touch touches, and holds the answer against the model's.
func (p pair) touch(what, key string) {
	p.t.Helper()
	want, wantOK := p.m.touch(key)
	wantTouch(p.t, what, p.x, key, want, wantOK)
}

// drop drops, and holds the answer against the model's.
func (p pair) drop(what, key string) {
	p.t.Helper()
	want := p.m.drop(key)
	if ok := p.x.Drop(key); ok != want {
		p.t.Errorf("%s: Drop(%q) is %v", what, key, ok)
	}
}

// has asks Has, and holds the answer against the model's.
func (p pair) has(what, key string) {
	p.t.Helper()
	want := slices.Contains(p.m.keys, key)
	if ok := p.x.Has(key); ok != want {
		p.t.Errorf("%s: Has(%q) is %v", what, key, ok)
	}
}

// same holds all that the table tells against the model.
func (p pair) same(what string) {
	p.t.Helper()
	wantTable(p.t, what, p.x, p.m.most, p.m.keys)
}

// wantTouch holds a Touch against its answer.
func wantTouch(t *testing.T, what string, x *activ.Table, key, want string, wantOK bool) {
	t.Helper()
	if gone, ok := x.Touch(key); gone != want || ok != wantOK {
		t.Errorf("%s: Touch(%q) is %q, %v; not %q, %v", what, key, gone, ok, want, wantOK)
	}
}

// wantTable holds all that a table tells against these keys.
func wantTable(t *testing.T, what string, x *activ.Table, most int, keys []string) {
	t.Helper()
	if list := x.List(); !slices.Equal(list, keys) {
		t.Errorf("%s: List is %q; not %q", what, list, keys)
	}
	if n := x.Most(); n != most {
		t.Errorf("%s: Most is %d; not %d", what, n, most)
	}
	for _, key := range keys {
		if !x.Has(key) {
			t.Errorf("%s: Has(%q) is false", what, key)
		}
	}
}

// someKeys are count keys, not rising.
func someKeys(count int) []string {
	keys := make([]string, count)
	for n := range keys {
		keys[n] = "k" + strconv.Itoa((n+count/2)%count)
	}
	return keys
}

// texts are keys, and such as are none; none of them twice.
func texts() []string {
	list := []string{"\x00", "\x00\x00", "\xff", "\x00\xff", "é", "e\u0301", "\xc3", " ", "\n", "a", "A", "b", "a\x00", "ab", "\ufffd"}
	for size := range 100 {
		list = append(list, strings.Repeat("k", size))
	}
	return append(list, strings.Repeat("k", 256+40), strings.Repeat("k", 65536+40))
}

func TestExample(t *testing.T) {
	x := activ.New(2)
	wantTouch(t, "example", x, "a", "", false)
	wantTouch(t, "example", x, "b", "", false)
	wantTouch(t, "example", x, "a", "", false)
	wantTouch(t, "example", x, "c", "b", true)
	wantTable(t, "example", x, 2, []string{"a", "c"})
	if x.Has("b") {
		t.Error("b is there")
	}
}

// P21.1: New and Most.

func TestNewWithinTheBounds(t *testing.T) {
	bounds := []struct{ most, want int }{
		{math.MinInt, 1}, {math.MinInt + 1, 1}, {-1 << 32, 1}, {-10000, 1}, {-2, 1}, {-1, 1}, {0, 1},
		{1, 1}, {2, 2}, {3, 3}, {255, 255}, {256, 256}, {9998, 9998}, {9999, 9999}, {10000, 10000},
		{10001, 10000}, {10002, 10000}, {65536, 10000}, {1 << 32, 10000}, {1<<32 + 1, 10000},
		{math.MaxInt - 1, 10000}, {math.MaxInt, 10000},
	}
	for _, b := range bounds {
		x := activ.New(b.most)
		wantTable(t, "new "+strconv.Itoa(b.most), x, b.want, nil)
		for n := range b.want {
			wantTouch(t, "filled", x, strconv.Itoa(n), "", false)
		}
		if list := x.List(); len(list) != b.want {
			t.Errorf("New(%d) has room for %d", b.most, len(list))
		}
		wantTouch(t, "one more", x, "more", "0", true)
		if list := x.List(); len(list) != b.want || list[b.want-1] != "more" || x.Most() != b.want {
			t.Errorf("New(%d) behind one more has %d keys, and Most %d", b.most, len(list), x.Most())
		}
	}
}

func TestNewIsWithoutKeys(t *testing.T) {
	p := newPair(t, 3)
	p.same("new")
	for _, key := range texts() {
		p.has("new", key)
		p.drop("new", key)
	}
	p.same("new")
}

func TestMostStaysTheSame(t *testing.T) {
	p := newPair(t, 3)
	for _, key := range someKeys(10) {
		p.touch("most", key)
		p.same("touched")
	}
	for _, key := range someKeys(10) {
		p.drop("most", key)
		p.same("dropped")
	}
}

func TestZeroTableHasRoomForOne(t *testing.T) {
	var zero activ.Table
	p := pair{t, &zero, &model{most: 1}}
	p.same("zero")
	p.has("zero", "a")
	p.drop("zero", "a")
	p.has("zero", "")
	p.drop("zero", "")
	p.same("zero, asked")
	for _, key := range []string{"a", "a", "b", "a", "a", ""} {
		p.touch("zero", key)
		p.same("zero, touched")
	}
	p.drop("zero", "a")
	p.drop("zero", "")
	p.same("zero, dropped")
	p.touch("zero", "c")
	p.same("zero, touched again")
}

// P21.1: Touch.

func TestTouchOfANewKey(t *testing.T) {
	p := newPair(t, 5)
	for _, key := range []string{"c", "a", "e", "b", "d"} {
		p.has("ahead", key)
		p.touch("new", key)
		p.has("behind", key)
		p.same("new")
	}
}

func TestTouchOfAKeyThatIsThere(t *testing.T) {
	keys := someKeys(6)
	for _, most := range []int{6, 7} {
		for _, key := range keys {
			p := with(t, most, keys...)
			p.touch("there", key)
			p.same("there")
			p.touch("there, and the last one", key)
			p.same("there, and the last one")
		}
	}
}

func TestTouchOfOneTooMany(t *testing.T) {
	for most := 1; most <= 9; most++ {
		p := with(t, most, someKeys(most)...)
		p.same("full")
		for n := range 3 * most {
			p.touch("too many", "new"+strconv.Itoa(n))
			p.same("too many")
		}
		for _, key := range someKeys(most) {
			p.has("gone", key)
		}
	}
}

func TestTheFirstOneIsNotWhoCameFirst(t *testing.T) {
	p := with(t, 3, "a", "b", "c")
	for _, key := range []string{"a", "d", "c", "e", "f", "c", "d"} {
		p.touch("the first one", key)
		p.same("the first one")
	}
}

func TestOneThatWasPutAwayComesBackAsTheLast(t *testing.T) {
	p := with(t, 3, "a", "b", "c", "d")
	p.has("gone", "a")
	p.drop("gone", "a")
	p.touch("back", "a")
	p.has("back", "a")
	p.has("put away for it", "b")
	p.same("back")
}

// TestTouchInTurn goes round one key more than there may be, so that each one is gone
// when it is asked for.
func TestTouchInTurn(t *testing.T) {
	for most := 1; most <= 5; most++ {
		p := newPair(t, most)
		for n := range 5 * most {
			p.touch("in turn", strconv.Itoa(n%(most+1)))
			p.same("in turn")
		}
	}
}

// TestTouchOfAnyText holds that the table tells texts apart by their bytes alone. The
// chapter names no text that it refuses, not even one that is no key.
func TestTouchOfAnyText(t *testing.T) {
	list := texts()
	p := newPair(t, len(list))
	for _, key := range list {
		p.has("any text", key)
		p.touch("any text", key)
	}
	p.same("any text")
	for n, key := range list {
		p.touch("any text, too many", "other"+strconv.Itoa(n))
		p.has("any text, gone", key)
	}
	p.same("any text, gone")
}

func TestTheEmptyTextMayBeTheOneThatIsGone(t *testing.T) {
	p := with(t, 1, "")
	p.same("empty")
	wantTouch(t, "empty", p.x, "", "", false)
	wantTouch(t, "empty, gone", p.x, "a", "", true)
	wantTable(t, "empty, gone", p.x, 1, []string{"a"})
}

// P21.1: Has and Drop.

func TestHasTouchesNobody(t *testing.T) {
	p := with(t, 3, "a", "b", "c")
	for _, key := range []string{"a", "b", "x", "a", ""} {
		p.has("has", key)
		p.same("has")
	}
	p.touch("behind Has", "d")
	p.same("behind Has")
}

func TestDropOfEachPlace(t *testing.T) {
	keys := someKeys(6)
	for _, first := range keys {
		for _, second := range keys {
			p := with(t, 6, keys...)
			p.drop("first", first)
			p.has("first", first)
			p.same("first")
			p.drop("second", second)
			p.has("second", second)
			p.same("second")
			p.touch("room for two", "x")
			p.touch("room for two", second)
			p.touch("room for none", first)
			p.touch("room for none", "y")
			p.same("touched again")
		}
	}
}

func TestDropOfOneThatIsNotThere(t *testing.T) {
	p := with(t, 3, "a", "b", "c", "d")
	for _, key := range []string{"a", "x", "", "B", "b\x00", "bb"} {
		p.drop("not there", key)
		p.same("not there")
	}
	p.touch("full as ahead", "e")
	p.same("full as ahead")
}

func TestDropOfAll(t *testing.T) {
	keys := someKeys(7)
	back := slices.Clone(keys)
	slices.Reverse(back)
	for _, order := range [][]string{keys, back, {"k3", "k0", "k6", "k1", "k5", "k2", "k4"}} {
		p := with(t, 7, keys...)
		for range 2 {
			for _, key := range order {
				p.drop("all", key)
				p.drop("all, again", key)
				p.same("all")
			}
			for _, key := range order {
				p.touch("all, back", key)
			}
			p.same("all, back")
		}
	}
}

// P21.1: all calls together.

// TestAgainstTheModel goes through histories with few and many keys.
func TestAgainstTheModel(t *testing.T) {
	r := rand.New(rand.NewSource(211))
	for _, most := range []int{1, 2, 3, 5, 8, 40} {
		for _, keys := range []int{1, 2, most, most + 1, 2*most + 1, 10 * most} {
			p := newPair(t, most)
			for range 1000 {
				key := strconv.Itoa(r.Intn(keys))
				switch r.Intn(8) {
				case 0:
					p.drop("any", key)
				case 1:
					p.same("any")
				default:
					p.touch("any", key)
				}
				p.has("any", strconv.Itoa(r.Intn(keys)))
				if t.Failed() {
					t.Fatalf("room for %d, of %d keys", most, keys)
				}
			}
			p.same("any")
		}
	}
}

// TestAllShortHistories goes through all histories of six calls on three keys.
func TestAllShortHistories(t *testing.T) {
	const steps, kinds = 6, 6
	histories := 1
	for range steps {
		histories *= kinds
	}
	for most := 1; most <= 3; most++ {
		for history := 0; history < histories && !t.Failed(); history++ {
			p := newPair(t, most)
			for rest, n := history, 0; n < steps; rest, n = rest/kinds, n+1 {
				key := string(rune('a' + rest%kinds%3))
				if rest%kinds < 3 {
					p.touch("short", key)
				} else {
					p.drop("short", key)
				}
			}
			p.same("short")
		}
	}
}

// TestAGreatTable goes through many calls on as many keys as there may be.
func TestAGreatTable(t *testing.T) {
	x := activ.New(mostKeys)
	for n := range 300 * mostKeys {
		gone, ok := x.Touch(strconv.Itoa(n % (2 * mostKeys)))
		if ok != (n >= mostKeys) || ok && gone != strconv.Itoa((n-mostKeys)%(2*mostKeys)) {
			t.Fatalf("Touch %d is %q, %v", n, gone, ok)
		}
	}
	list := x.List()
	for n, key := range list {
		if key != strconv.Itoa(mostKeys+n) || !x.Has(key) || x.Has(strconv.Itoa(n)) {
			t.Fatalf("the place %d has %q", n, key)
		}
	}
	for left := len(list); left > 0; left-- {
		if !x.Drop(list[left-1]) || x.Drop(list[left-1]) {
			t.Fatalf("Drop of %q", list[left-1])
		}
	}
	wantTable(t, "all dropped", x, mostKeys, nil)
}

// R1: nil.

func TestNilTable(t *testing.T) {
	var none *activ.Table
	for range 2 {
		for _, key := range texts() {
			wantTouch(t, "nil", none, key, "", false)
			if none.Has(key) || none.Drop(key) {
				t.Errorf("nil: %q is there", key)
			}
		}
		wantTable(t, "nil", none, 0, nil)
	}
}

// R2: the object's history alone.

func TestEachTableIsForItself(t *testing.T) {
	a, b := with(t, 2, "x", "y"), newPair(t, 2)
	b.same("b")
	b.touch("b", "y")
	b.touch("b", "z")
	b.touch("b", "x")
	b.drop("b", "z")
	a.same("a")
	b.same("b")
	var c, d activ.Table
	wantTouch(t, "c", &c, "x", "", false)
	wantTable(t, "d", &d, 1, nil)
}

func TestAnswersStayTheSame(t *testing.T) {
	p := with(t, 5, someKeys(9)...)
	for range 3 {
		p.same("again")
	}
}

// TestACopyOfATable holds that no call on a copy panics or gets lost, whichever of the
// two was changed: what a copy tells the chapter doesn't say.
func TestACopyOfATable(t *testing.T) {
	for _, keys := range [][]string{nil, {"a"}, {"a", "b", "c"}} {
		first := with(t, 3, keys...).x
		second := *first
		for n := range 30 {
			x := first
			if n%2 == 1 {
				x = &second
			}
			x.Touch(strconv.Itoa(n % 7))
			first.Drop(strconv.Itoa(n % 5))
			second.Drop("b")
			for _, x := range []*activ.Table{first, &second} {
				if list := x.List(); len(list) > 3 || x.Has("b") {
					t.Errorf("List is %q", list)
				}
			}
		}
	}
}

// R3: memory.

func TestListIsNewMemory(t *testing.T) {
	keys := someKeys(20)
	for count := range keys {
		p := with(t, 20, keys[:count]...)
		kept, filled := p.x.List(), p.x.List()
		filled = filled[:cap(filled)]
		for at := range filled {
			filled[at] = "filled"
		}
		p.same("List's answer was filled")
		if !slices.Equal(kept, keys[:count]) {
			t.Errorf("two answers of List share memory: %q", kept)
		}
		p.touch("behind List", "k3")
		p.touch("behind List", "new")
		p.drop("behind List", "k1")
		if !slices.Equal(kept, keys[:count]) {
			t.Errorf("a call changed what List told: %q", kept)
		}
	}
}

func TestTextsAreNewMemory(t *testing.T) {
	given := strings.Repeat("a", 40)
	x := activ.New(1)
	wantTouch(t, "given", x, given, "", false)
	one, other := x.List()[0], x.List()[0]
	gone, _ := x.Touch("b")
	seen := map[*byte]bool{unsafe.StringData(given): true}
	for _, s := range []string{one, other, gone} {
		if s != given || seen[unsafe.StringData(s)] {
			t.Errorf("%q is another one, or shared", s)
		}
		seen[unsafe.StringData(s)] = true
	}
}

// TestGivenTextsAreNotKept changes a text behind the calls to which it was given.
func TestGivenTextsAreNotKept(t *testing.T) {
	room := []byte("ab")
	given := unsafe.String(&room[0], len(room))
	x := activ.New(2)
	for range 3 {
		wantTouch(t, "given", x, given, "", false)
		if !x.Has(given) {
			t.Error("it isn't there")
		}
	}
	room[0], room[1] = 'x', 'y'
	wantTable(t, "the text was filled", x, 2, []string{"ab"})
	if x.Has("xy") || x.Drop(given) {
		t.Error("the text that was filled is there")
	}
	wantTouch(t, "the text was filled", x, "ab", "", false)
	wantTouch(t, "the text was filled", x, "c", "", false)
	wantTouch(t, "the text was filled", x, "d", "ab", true)
}
