package counts_test

import (
	"math"
	"runtime/metrics"
	"slices"
	"sync"
	"testing"

	"reeve/counts"
)

// How many counters there are, and the most lists and takers, as the chapter tells them.
const (
	size        = 8
	mostWorkers = 64
)

var (
	noCounters = []int{math.MinInt, math.MinInt + 1, math.MinInt32, -257, -9, -8, -7, -2, -1, 8, 9, 15, 16, 63, 64, 255, 256, math.MaxInt32, 1 << 32, 1<<32 + 1, math.MaxInt - 1, math.MaxInt}
	noManies   = []int{math.MinInt, math.MinInt32, -65, -64, -1, 0, 65, 66, 128, 256, 257, 1 << 32, 1<<32 + 1, math.MaxInt}
	someValues = []uint64{1, 2, 7, 8, 255, 256, 65535, 65536, 1<<32 - 1, 1 << 32, 1<<53 + 1, 1<<63 - 1, 1 << 63, math.MaxUint64 - 1, math.MaxUint64}
)

// filled has another value, never 0, in each counter: 10, 21, 32 .. 87.
func filled() (*counts.Counts, []uint64) {
	c := counts.New()
	want := make([]uint64, size)
	for i := range want {
		want[i] = uint64(10 + 11*i)
		c.Add(i, want[i])
	}
	return c, want
}

// sameAll holds all counters against what they should be, told by All and one by one.
func sameAll(t *testing.T, c *counts.Counts, want []uint64) {
	t.Helper()
	if got := c.All(); !slices.Equal(got, want) {
		t.Errorf("All: %d; not %d", got, want)
	}
	for i, n := range want {
		if got := c.Get(i); got != n {
			t.Errorf("Get(%d): %d; not %d", i, got, n)
		}
	}
}

// same holds one answer against what it should be.
func same(t *testing.T, what string, got, want uint64) {
	t.Helper()
	if got != want {
		t.Errorf("%s: %d; not %d", what, got, want)
	}
}

// atOneTime calls f in that many goroutines, which start as one, and waits for all.
func atOneTime(many int, f func(n int)) {
	start := make(chan struct{})
	var all sync.WaitGroup
	for n := range many {
		all.Go(func() {
			<-start
			f(n)
		})
	}
	close(start)
	all.Wait()
}

// total is the sum of these numbers, modulo 2^64.
func total(list []uint64) uint64 {
	var n uint64
	for _, x := range list {
		n += x
	}
	return n
}

// P4.1: eight counters.

func TestExample(t *testing.T) {
	c := counts.New()
	same(t, "Add(2, 5)", c.Add(2, 5), 5)
	same(t, "Add(2, 1)", c.Add(2, 1), 6)
	same(t, "Take(2)", c.Take(2), 6)
	same(t, "Get(2)", c.Get(2), 0)
}

func TestNewCountersAreEightNoughts(t *testing.T) {
	c := counts.New()
	if c == nil {
		t.Fatal("New is nil")
	}
	sameAll(t, c, make([]uint64, size))
}

func TestZeroCountsIsAsNew(t *testing.T) {
	var c counts.Counts
	sameAll(t, &c, make([]uint64, size))
	same(t, "Take(0)", c.Take(0), 0)
	same(t, "Add(7, 3)", c.Add(7, 3), 3)
	c.Together([][]int{{7}, {0}})
	sameAll(t, &c, []uint64{1, 0, 0, 0, 0, 0, 0, 4})
	if got := c.Share(7, 2); !slices.Equal(got, []uint64{0, 4}) {
		t.Errorf("Share(7, 2): %d", got)
	}
}

func TestEachCountsIsForItself(t *testing.T) {
	first, second := counts.New(), counts.New()
	first.Add(3, 9)
	sameAll(t, first, []uint64{0, 0, 0, 9, 0, 0, 0, 0})
	sameAll(t, second, make([]uint64, size))
}

func TestAddRaisesItsCounterAlone(t *testing.T) {
	for i := range size {
		c, want := filled()
		for _, n := range []uint64{1, 5, 0, 300} {
			want[i] += n
			same(t, "Add", c.Add(i, n), want[i])
			sameAll(t, c, want)
		}
	}
}

func TestAddIsModulo2To64(t *testing.T) {
	for i := range size {
		for _, a := range someValues {
			for _, b := range someValues {
				c := counts.New()
				same(t, "first Add", c.Add(i, a), a)
				same(t, "second Add", c.Add(i, b), a+b)
				want := make([]uint64, size)
				want[i] = a + b
				sameAll(t, c, want)
			}
		}
	}
	c := counts.New()
	c.Add(0, math.MaxUint64)
	same(t, "Add of 1 to the greatest", c.Add(0, 1), 0)
	c.Add(0, math.MaxUint64)
	same(t, "Add of the greatest to the greatest", c.Add(0, math.MaxUint64), math.MaxUint64-1)
}

func TestGetAndAllChangeNothing(t *testing.T) {
	c, want := filled()
	for range 3 {
		sameAll(t, c, want)
	}
}

func TestTakeEmptiesItsCounterAlone(t *testing.T) {
	for i := range size {
		c, want := filled()
		same(t, "Take", c.Take(i), want[i])
		want[i] = 0
		sameAll(t, c, want)
		same(t, "second Take", c.Take(i), 0)
		sameAll(t, c, want)
		want[i] = 4
		same(t, "Add behind Take", c.Add(i, 4), 4)
		sameAll(t, c, want)
	}
	for _, n := range someValues {
		c := counts.New()
		c.Add(1, n)
		same(t, "Take", c.Take(1), n)
		same(t, "Get behind Take", c.Get(1), 0)
	}
}

func TestOfAnotherCounterNothingHappens(t *testing.T) {
	c, want := filled()
	for _, i := range noCounters {
		same(t, "Add", c.Add(i, 1), 0)
		same(t, "Add of the greatest", c.Add(i, math.MaxUint64), 0)
		same(t, "Get", c.Get(i), 0)
		same(t, "Take", c.Take(i), 0)
		sameAll(t, c, want)
	}
}

// P4.2: many goroutines.

func TestNoAddIsLost(t *testing.T) {
	const many, each = 32, 2000
	c := counts.New()
	atOneTime(many, func(n int) {
		for k := range each {
			c.Add(k%size, uint64(n+1))
		}
	})
	const perCounter = many * (many + 1) / 2 * each / size
	sameAll(t, c, slices.Repeat([]uint64{perCounter}, size))
}

func TestEachAddIsToldItsOwnValue(t *testing.T) {
	const many, each = 16, 2000
	c := counts.New()
	told := make([][]uint64, many)
	atOneTime(many, func(n int) {
		for range each {
			told[n] = append(told[n], c.Add(5, 1))
		}
	})
	all := slices.Concat(told...)
	slices.Sort(all)
	for k, n := range all {
		if n != uint64(k+1) {
			t.Fatalf("the values 1 to %d aren't told once each: %d at %d", many*each, n, k)
		}
	}
}

func TestNoTakeLosesAnything(t *testing.T) {
	const adders, takers, each = 12, 12, 2000
	c := counts.New()
	taken := make([]uint64, takers)
	atOneTime(adders+takers, func(n int) {
		for range each {
			if n < takers {
				taken[n] += c.Take(6)
			} else {
				c.Add(6, 3)
			}
		}
	})
	same(t, "taken and left", total(taken)+c.Get(6), adders*each*3)
}

func TestAllCallsAtOneTime(t *testing.T) {
	const many, each = 24, 200
	c := counts.New()
	taken := make([]uint64, many)
	atOneTime(many, func(n int) {
		for range each {
			c.Add(0, 1)
			c.Together([][]int{{0, 1}, {0, -1, 8}})
			taken[n] += total(c.Share(0, 3)) + c.Take(0)
			if all := c.All(); len(all) != size || all[2] != 0 || all[1] > many*each {
				t.Errorf("All: %d", all)
			}
			if c.Get(1) > many*each {
				t.Errorf("Get(1): %d", c.Get(1))
			}
		}
	})
	same(t, "taken and left", total(taken)+c.Get(0), many*each*3)
	same(t, "Get(1)", c.Get(1), many*each)
}

func TestTogetherRaisesEachListsCounters(t *testing.T) {
	c, want := filled()
	c.Together([][]int{{0, 1, 1}, {1, 7}, nil, {9}, {}, {7, 6, 5, 4, 3, 2, 1, 0}})
	for i, more := range []uint64{2, 4, 1, 1, 1, 1, 1, 2} {
		want[i] += more
	}
	sameAll(t, c, want)
	c.Together([][]int{{3}})
	want[3]++
	sameAll(t, c, want)
}

func TestTogetherIsModulo2To64(t *testing.T) {
	c := counts.New()
	c.Add(4, math.MaxUint64)
	c.Together([][]int{{4}, {4}})
	sameAll(t, c, []uint64{0, 0, 0, 0, 1, 0, 0, 0})
}

func TestTogetherPassesOverOtherNumbers(t *testing.T) {
	c, want := filled()
	c.Together([][]int{noCounters, noCounters})
	sameAll(t, c, want)
	c.Together([][]int{append(slices.Clone(noCounters), 2), {-1, 2, 8, 2}})
	want[2] += 3
	sameAll(t, c, want)
}

func TestTogetherTakesUpTo64Lists(t *testing.T) {
	for _, many := range []int{1, 2, 31, 32, 33, 63, 64} {
		c := counts.New()
		c.Together(slices.Repeat([][]int{{1, 6, 6}}, many))
		n := uint64(many)
		sameAll(t, c, []uint64{0, n, 0, 0, 0, 0, 2 * n, 0})
	}
}

func TestTogetherOfMoreOrOfNoneDoesNothing(t *testing.T) {
	for _, many := range []int{0, 65, 66, 128, 256, 257, 1000} {
		c, want := filled()
		c.Together(slices.Repeat([][]int{{0, 1, 2, 3, 4, 5, 6, 7}}, many))
		sameAll(t, c, want)
	}
	c, want := filled()
	c.Together(nil)
	c.Together(make([][]int, 0, 4))
	c.Together(make([][]int, 3))
	sameAll(t, c, want)
}

func TestTogetherIsOverWhenAllAreDone(t *testing.T) {
	const each = 3000
	lists := make([][]int, mostWorkers)
	for n := range lists {
		lists[n] = slices.Repeat([]int{n % size}, each)
	}
	c := counts.New()
	for round := range 5 {
		c.Together(lists)
		n := uint64((round + 1) * each * mostWorkers / size)
		if got := c.All(); !slices.Equal(got, slices.Repeat([]uint64{n}, size)) {
			t.Errorf("All behind Together: %d; not %d each", got, n)
		}
	}
}

func TestTogetherAtOneTimeLosesNothing(t *testing.T) {
	const many, each = 16, 500
	c := counts.New()
	list := slices.Repeat([]int{0, 7}, each)
	atOneTime(many, func(int) { c.Together([][]int{list, list, list}) })
	const n = many * each * 3
	sameAll(t, c, []uint64{n, 0, 0, 0, 0, 0, 0, n})
}

func TestShareTellsOneAllAndTheOthersNought(t *testing.T) {
	for i := range size {
		for _, many := range []int{1, 2, 3, 31, 63, 64} {
			c, want := filled()
			told := make([]uint64, many)
			told[many-1] = want[i]
			if got := c.Share(i, many); !slices.Equal(got, told) {
				t.Errorf("Share(%d, %d): %d; not %d", i, many, got, told)
			}
			want[i] = 0
			sameAll(t, c, want)
			if got := c.Share(i, many); !slices.Equal(got, make([]uint64, many)) {
				t.Errorf("second Share(%d, %d): %d", i, many, got)
			}
			sameAll(t, c, want)
		}
	}
}

func TestShareOfAnyValue(t *testing.T) {
	for _, n := range someValues {
		c := counts.New()
		c.Add(3, n)
		if got := c.Share(3, 3); !slices.Equal(got, []uint64{0, 0, n}) {
			t.Errorf("Share of %d: %d", n, got)
		}
		sameAll(t, c, make([]uint64, size))
	}
}

func TestShareOfAnotherManyDoesNothing(t *testing.T) {
	c, want := filled()
	for _, many := range noManies {
		for _, i := range []int{0, 3, 7, -1, 8} {
			if got := c.Share(i, many); len(got) != 0 {
				t.Errorf("Share(%d, %d): %d", i, many, got)
			}
		}
		sameAll(t, c, want)
	}
}

func TestShareOfAnotherCounterTellsNoughts(t *testing.T) {
	c, want := filled()
	for _, i := range noCounters {
		for _, many := range []int{1, 5, 64} {
			if got := c.Share(i, many); !slices.Equal(got, make([]uint64, many)) {
				t.Errorf("Share(%d, %d): %d", i, many, got)
			}
		}
		sameAll(t, c, want)
	}
}

func TestShareTellsOneAtMostWhileOthersAdd(t *testing.T) {
	const adders, sharers, each = 8, 4, 400
	c := counts.New()
	taken := make([]uint64, sharers)
	atOneTime(adders+sharers, func(n int) {
		for range each {
			if n >= sharers {
				c.Together([][]int{{2, 2, 2}, {2}})
				c.Add(2, 1)
				continue
			}
			told := c.Share(2, mostWorkers)
			if len(told) != mostWorkers || total(told[:mostWorkers-1]) != 0 {
				t.Errorf("Share: %d", told)
			}
			taken[n] += total(told)
		}
	})
	same(t, "taken and left", total(taken)+c.Get(2), adders*each*5)
}

// goroutinesMade tells how many goroutines were ever made in this process.
func goroutinesMade(t *testing.T) uint64 {
	t.Helper()
	sample := []metrics.Sample{{Name: "/sched/goroutines-created:goroutines"}}
	metrics.Read(sample)
	if sample[0].Value.Kind() != metrics.KindUint64 {
		t.Fatal("the runtime doesn't count goroutines")
	}
	return sample[0].Value.Uint64()
}

func TestEachListAndEachTakerHasAGoroutineOfItsOwn(t *testing.T) {
	// So many calls that the goroutines the runtime makes for itself can't stand in for theirs.
	const calls = 100
	c := counts.New()
	for _, many := range []int{1, 2, 63, mostWorkers} {
		lists := slices.Repeat([][]int{{0}}, many)
		for name, call := range map[string]func(){
			"Together": func() { c.Together(lists) },
			"Share":    func() { c.Share(0, many) },
		} {
			before := goroutinesMade(t)
			for range calls {
				call()
			}
			if made := goroutinesMade(t) - before; made < uint64(calls*many) {
				t.Errorf("%d calls of %s with %d made %d goroutines", calls, name, many, made)
			}
		}
	}
}

// R1: nil counters.

func TestNilCountsAnswersZero(t *testing.T) {
	var c *counts.Counts
	for _, i := range append(slices.Clone(noCounters), 0, 1, 2, 3, 4, 5, 6, 7) {
		same(t, "Add", c.Add(i, 5), 0)
		same(t, "Get", c.Get(i), 0)
		same(t, "Take", c.Take(i), 0)
		for _, many := range append(slices.Clone(noManies), 1, 64) {
			if got := c.Share(i, many); len(got) != 0 {
				t.Errorf("Share(%d, %d): %d", i, many, got)
			}
		}
	}
	if got := c.All(); len(got) != 0 {
		t.Errorf("All: %d", got)
	}
	c.Together(nil)
	c.Together([][]int{{0, 1}, nil, {9}})
	c.Together(make([][]int, 65))
}

// R2: the same calls, the same answers.

func TestShareNeverShowsWhoCameFirst(t *testing.T) {
	c := counts.New()
	for range 500 {
		c.Add(1, 9)
		if got := c.Share(1, 5); !slices.Equal(got, []uint64{0, 0, 0, 0, 9}) {
			t.Fatalf("Share: %d", got)
		}
	}
}

// R3: memory.

func TestListsStayAsTheyAre(t *testing.T) {
	room := []int{3, 1, 9, 2, 0, 5}
	rooms := [][]int{room[:3], {7}, {6, 6}, {4}}
	c := counts.New()
	c.Together(rooms[:2])
	sameAll(t, c, []uint64{0, 1, 0, 1, 0, 0, 0, 1})
	if !slices.Equal(room, []int{3, 1, 9, 2, 0, 5}) {
		t.Errorf("a list was changed: %d", room)
	}
	if !slices.EqualFunc(rooms, [][]int{{3, 1, 9}, {7}, {6, 6}, {4}}, slices.Equal[[]int]) {
		t.Errorf("the lists were changed: %d", rooms)
	}
	room[0], rooms[1] = 2, nil
	sameAll(t, c, []uint64{0, 1, 0, 1, 0, 0, 0, 1})
}

// fill overwrites a list and its spare room.
func fill(list []uint64) {
	list = list[:cap(list)]
	for i := range list {
		list[i] = 999
	}
}

func TestAnswersAreNewMemory(t *testing.T) {
	c, want := filled()
	first, second := c.All(), c.All()
	fill(first)
	if !slices.Equal(second, want) {
		t.Errorf("two answers of All share memory: %d", second)
	}
	sameAll(t, c, want)
	third, fourth := c.Share(0, 3), c.Share(1, 3)
	fill(third)
	if !slices.Equal(fourth, []uint64{0, 0, want[1]}) {
		t.Errorf("two answers of Share share memory: %d", fourth)
	}
	want[0], want[1] = 0, 0
	sameAll(t, c, want)
}
