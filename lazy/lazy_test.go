package lazy_test

import (
	"bytes"
	"math"
	"runtime/metrics"
	"slices"
	"strings"
	"sync"
	"testing"

	"reeve/codec"
	"reeve/lazy"
)

// The most asks that Together takes, as the chapter tells it.
const mostAsks = 64

// someLists are texts that a list may be of, the edges of a length's bytes among them.
func someLists() [][]string {
	many := make([]string, 300)
	for i := range many {
		many[i] = strings.Repeat(string(rune('a'+i%26)), i%7)
	}
	return [][]string{
		nil,
		{""},
		{"", "", ""},
		{"a"},
		{"a", "bc"},
		{"a", "bc", ""},
		{"\x00", "\xff\xfe", "a\x00b", "ä"},
		{strings.Repeat("x", 247), strings.Repeat("y", 248), "z"},
		{strings.Repeat("x", 255), strings.Repeat("y", 256), strings.Repeat("z", 70000)},
		many,
	}
}

// notJustTexts are bytes of which some part is no text, though others may be.
var notJustTexts = []string{
	"\x05",            // the chapter's example: no byte of five
	"\x01",            // the one byte is missing
	"\x02a",           // one of two is missing
	"\x01a\x02b",      // a text ahead of one that is cut short
	"\x01a\x02bc\x01", // two of them
	"\xf8",            // a length of which a byte is missing
	"\xf8\x05abcde",   // a length in a second form
	"\x01a\xf8\x01b",  // the same behind a text
	"\xf9\x00\xf8" + strings.Repeat("x", 248), // a length whose first byte is 0
	"\xf8\xff" + strings.Repeat("x", 254),     // one of 255 bytes is missing
	"\xff\xff\xff\xff\xff\xff\xff\xff\xff",    // the greatest length
	"\xff\x80\x00\x00\x00\x00\x00\x00\x00a",   // a length that is below 0 as an integer
}

// laid is the bytes of these texts, one behind the other.
func laid(texts []string) []byte {
	w := codec.NewWriter()
	for _, s := range texts {
		w.Text(s)
	}
	return w.Bytes()
}

// sameTexts holds what Texts answers against what it should.
func sameTexts(t *testing.T, l *lazy.List, want []string, wantOK bool) {
	t.Helper()
	got, ok := l.Texts()
	if !slices.Equal(got, want) || ok != wantOK {
		t.Errorf("Texts: %q, %v; not %q, %v", got, ok, want, wantOK)
	}
}

// sameAt holds what At answers against the texts that the list should have.
func sameAt(t *testing.T, l *lazy.List, i int, texts []string) {
	t.Helper()
	want, wantOK := "", false
	if i >= 0 && i < len(texts) {
		want, wantOK = texts[i], true
	}
	if got, ok := l.At(i); got != want || ok != wantOK {
		t.Errorf("At(%d): %q, %v; not %q, %v", i, got, ok, want, wantOK)
	}
}

// sameMade holds Made against how often the list should have been read.
func sameMade(t *testing.T, l *lazy.List, want int) {
	t.Helper()
	if got := l.Made(); got != want {
		t.Errorf("Made: %d; not %d", got, want)
	}
}

// placesAround are all places of a list of that many texts, and some that it hasn't.
func placesAround(size int) []int {
	places := []int{math.MinInt, math.MinInt32, -size - 1, -size, -2, -1}
	for i := range size + 3 {
		places = append(places, i)
	}
	return append(places, math.MaxInt32, 1<<32, math.MaxInt-1, math.MaxInt)
}

// P3.1: a list and its texts.

func TestExamples(t *testing.T) {
	b := []byte{0x01, 0x61, 0x02, 0x62, 0x63}
	sameTexts(t, lazy.New(b), []string{"a", "bc"}, true)
	sameAt(t, lazy.New(b), 1, []string{"a", "bc"})
	sameTexts(t, lazy.New([]byte{0x05}), nil, false)
}

func TestTextsTellsAllTexts(t *testing.T) {
	for _, texts := range someLists() {
		sameTexts(t, lazy.New(laid(texts)), texts, true)
	}
}

func TestNoBytesAreNoTexts(t *testing.T) {
	for _, b := range [][]byte{nil, {}} {
		l := lazy.New(b)
		sameTexts(t, l, nil, true)
		sameAt(t, l, 0, nil)
	}
}

func TestAtTellsEachText(t *testing.T) {
	for _, texts := range someLists() {
		l := lazy.New(laid(texts))
		for _, i := range placesAround(len(texts)) {
			sameAt(t, l, i, texts)
			sameAt(t, lazy.New(laid(texts[:min(len(texts), 10)])), i, texts[:min(len(texts), 10)])
		}
	}
}

func TestBytesThatAreNotJustTexts(t *testing.T) {
	for _, s := range notJustTexts {
		sameTexts(t, lazy.New([]byte(s)), nil, false)
		l := lazy.New([]byte(s))
		for _, i := range placesAround(3) {
			sameAt(t, l, i, nil)
		}
		sameTexts(t, l, nil, false)
		if got := l.Together([]int{0, 1}); !slices.Equal(got, []string{"", ""}) {
			t.Errorf("Together of %q: %q", s, got)
		}
	}
}

func TestEachBeginningIsWholeAtTextsEndsAlone(t *testing.T) {
	texts := []string{"a", "", "bcd", strings.Repeat("x", 250), "e"}
	b := laid(texts)
	ends := map[int]int{0: 0}
	for n := range texts {
		ends[len(laid(texts[:n+1]))] = n + 1
	}
	for size := range len(b) + 1 {
		n, whole := ends[size]
		sameTexts(t, lazy.New(b[:size]), texts[:n], whole)
	}
}

// P3.2: the read, and asking together.

func TestMadeIsNoughtAheadOfTheFirstAsk(t *testing.T) {
	for _, b := range [][]byte{nil, {1, 'a'}, {5}} {
		l := lazy.New(b)
		sameMade(t, l, 0)
		sameMade(t, l, 0)
	}
}

// firstAsks are all ways to ask a list for something.
var firstAsks = []struct {
	name string
	ask  func(l *lazy.List)
}{
	{"Texts", func(l *lazy.List) { l.Texts() }},
	{"At(0)", func(l *lazy.List) { l.At(0) }},
	{"At(-1)", func(l *lazy.List) { l.At(-1) }},
	{"At(1000)", func(l *lazy.List) { l.At(1000) }},
	{"Together of one", func(l *lazy.List) { l.Together([]int{0}) }},
	{"Together of one that isn't there", func(l *lazy.List) { l.Together([]int{-1}) }},
	{"Together of 64", func(l *lazy.List) { l.Together(make([]int, mostAsks)) }},
}

func TestMadeIsOneFromTheFirstAskOn(t *testing.T) {
	for _, b := range [][]byte{nil, {1, 'a'}, {5}} {
		for _, first := range firstAsks {
			l := lazy.New(b)
			first.ask(l)
			if l.Made() != 1 {
				t.Errorf("%s of %q: read %d times", first.name, b, l.Made())
			}
			for _, later := range firstAsks {
				later.ask(l)
				if l.Made() != 1 {
					t.Errorf("%s behind %s of %q: read %d times", later.name, first.name, b, l.Made())
				}
			}
		}
	}
}

func TestEachListIsReadForItself(t *testing.T) {
	first, second := lazy.New([]byte("\x01a")), lazy.New([]byte("\x01a"))
	first.Texts()
	sameMade(t, first, 1)
	sameMade(t, second, 0)
}

func TestReadOnceHoweverManyAskAtOneTime(t *testing.T) {
	texts := make([]string, 5000)
	for i := range texts {
		texts[i] = strings.Repeat("t", i%9)
	}
	b := laid(texts)
	for range 20 {
		l := lazy.New(b)
		start := make(chan struct{})
		var askers sync.WaitGroup
		for n := range 40 {
			askers.Go(func() {
				<-start
				switch n % 3 {
				case 0:
					sameTexts(t, l, texts, true)
				case 1:
					sameAt(t, l, n*100, texts)
				default:
					if got := l.Together([]int{n, -1, 4999}); !slices.Equal(got, []string{texts[n], "", texts[4999]}) {
						t.Errorf("Together: %q", got)
					}
				}
				sameMade(t, l, 1)
			})
			askers.Go(func() {
				<-start
				if made := l.Made(); made != 0 && made != 1 {
					t.Errorf("read %d times", made)
				}
			})
		}
		close(start)
		askers.Wait()
		sameMade(t, l, 1)
	}
}

func TestTogetherAnswersAsAtInTheirOrder(t *testing.T) {
	texts := []string{"a", "bc", "", "def"}
	for _, asks := range [][]int{{0}, {3}, {1, 0, 5, 2}, {3, 2, 1, 0}, {0, 0, 0}, {-1, 4, math.MinInt, math.MaxInt, 3}} {
		l := lazy.New(laid(texts))
		got := l.Together(asks)
		want := make([]string, len(asks))
		for n, i := range asks {
			want[n], _ = l.At(i)
		}
		if !slices.Equal(got, want) {
			t.Errorf("Together(%v): %q; not %q", asks, got, want)
		}
	}
	got := lazy.New(laid(texts)).Together([]int{3, 9, 1, 0, 1})
	if !slices.Equal(got, []string{"def", "", "bc", "a", "bc"}) {
		t.Errorf("Together: %q", got)
	}
}

func TestTogetherTakesUpTo64Asks(t *testing.T) {
	texts := make([]string, 100)
	for i := range texts {
		texts[i] = strings.Repeat("q", i)
	}
	for _, size := range []int{1, 2, 31, 32, 33, 63, 64} {
		l := lazy.New(laid(texts))
		asks := make([]int, size)
		want := make([]string, size)
		for n := range asks {
			asks[n] = 99 - n
			want[n] = texts[99-n]
		}
		if got := l.Together(asks); !slices.Equal(got, want) {
			t.Errorf("Together of %d: %q", size, got)
		}
		sameMade(t, l, 1)
	}
}

func TestTogetherOfMoreOrOfNoneReadsNothing(t *testing.T) {
	lists := [][]int{nil, {}, make([]int, 0, 8), make([]int, 65), make([]int, 66), make([]int, 128), make([]int, 1000)}
	for _, asks := range lists {
		l := lazy.New([]byte("\x01a\x02bc"))
		if got := l.Together(asks); len(got) != 0 {
			t.Errorf("Together of %d: %q", len(asks), got)
		}
		sameMade(t, l, 0)
		sameTexts(t, l, []string{"a", "bc"}, true)
		if got := l.Together(asks); len(got) != 0 {
			t.Errorf("Together of %d, behind a read: %q", len(asks), got)
		}
		sameMade(t, l, 1)
	}
}

// goroutinesMade tells how many goroutines were ever made in this process.
func goroutinesMade(t *testing.T) uint64 {
	t.Helper()
	sample := []metrics.Sample{{Name: "/sched/goroutines-created:goroutines"}}
	metrics.Read(sample)
	if sample[0].Value.Kind() != metrics.KindUint64 {
		t.Fatal("the runtime doesn't count goroutines")
	}
	return sample[0].Value.Uint64()
}

func TestEachAskHasAGoroutineOfItsOwn(t *testing.T) {
	// So many calls that the goroutines the runtime makes for itself can't stand in for theirs.
	const calls = 100
	l := lazy.New([]byte("\x01a"))
	for _, size := range []int{1, 2, 63, mostAsks} {
		before := goroutinesMade(t)
		for range calls {
			l.Together(make([]int, size))
		}
		if made := goroutinesMade(t) - before; made < uint64(calls*size) {
			t.Errorf("%d calls with %d asks made %d goroutines", calls, size, made)
		}
	}
}

// R1: nil and zero lists.

func TestNilListAnswersZero(t *testing.T) {
	var l *lazy.List
	sameTexts(t, l, nil, false)
	for _, i := range placesAround(1) {
		sameAt(t, l, i, nil)
	}
	sameMade(t, l, 0)
	for _, asks := range [][]int{nil, {}, {0}, {0, 1}, make([]int, 64), make([]int, 65)} {
		if got := l.Together(asks); len(got) != 0 {
			t.Errorf("Together of %d: %q", len(asks), got)
		}
	}
	sameMade(t, l, 0)
}

func TestZeroListHasNoTexts(t *testing.T) {
	var l lazy.List
	sameMade(t, &l, 0)
	sameAt(t, &l, 0, nil)
	sameTexts(t, &l, nil, true)
	sameMade(t, &l, 1)
}

// R2: the same answers, whatever was asked ahead.

func TestAnswersStayTheSame(t *testing.T) {
	texts := []string{"a", "bc", ""}
	l := lazy.New(laid(texts))
	for range 3 {
		for _, i := range placesAround(3) {
			sameAt(t, l, i, texts)
		}
		sameTexts(t, l, texts, true)
		if got := l.Together([]int{2, 1, 0}); !slices.Equal(got, []string{"", "bc", "a"}) {
			t.Errorf("Together: %q", got)
		}
	}
}

// R3: memory.

func TestBytesAreNotKept(t *testing.T) {
	b := []byte("\x01a\x02bc")
	ahead, behind := lazy.New(b), lazy.New(b)
	behind.Texts()
	for i := range b {
		b[i] = 0xff
	}
	sameTexts(t, ahead, []string{"a", "bc"}, true)
	sameTexts(t, behind, []string{"a", "bc"}, true)
	sameAt(t, behind, 1, []string{"a", "bc"})
}

func TestArgumentsStayAsTheyAre(t *testing.T) {
	room := []byte("\x01a\x02bc\x01z\x01z")
	was := bytes.Clone(room)
	l := lazy.New(room[:5])
	asks := []int{1, 0, 7, 8, 9}
	wereAsks := slices.Clone(asks)
	l.Together(asks[:3])
	sameTexts(t, l, []string{"a", "bc"}, true)
	if !bytes.Equal(room, was) || !slices.Equal(asks, wereAsks) {
		t.Errorf("changed: %q, %v", room, asks)
	}
}

// fill overwrites a list and its spare room.
func fill(texts []string) {
	texts = texts[:cap(texts)]
	for i := range texts {
		texts[i] = "filled"
	}
}

func TestAnswersAreNewMemory(t *testing.T) {
	for _, size := range []int{1, 2, 3, 5, 9, 17} {
		texts := make([]string, size)
		for i := range texts {
			texts[i] = strings.Repeat("m", i)
		}
		l := lazy.New(laid(texts))
		first, _ := l.Texts()
		second, _ := l.Texts()
		fill(first)
		if !slices.Equal(second, texts) {
			t.Errorf("two answers share memory: %q", second)
		}
		asks := []int{0, 1}
		third := l.Together(asks)
		fourth := l.Together(asks)
		want := slices.Clone(fourth)
		fill(third)
		if !slices.Equal(fourth, want) {
			t.Errorf("two answers share memory: %q", fourth)
		}
		sameTexts(t, l, texts, true)
		for i := range texts {
			sameAt(t, l, i, texts)
		}
	}
}

func TestSpareRoomIsNotShared(t *testing.T) {
	texts := []string{"a", "bc", "def"}
	l := lazy.New(laid(texts))
	first, _ := l.Texts()
	second, _ := l.Texts()
	longer := append(first, "mine")
	_ = append(second, "yours")
	if !slices.Equal(longer, []string{"a", "bc", "def", "mine"}) {
		t.Errorf("shared spare room: %q", longer)
	}
	sameTexts(t, l, texts, true)
	sameAt(t, l, 3, texts)
}
