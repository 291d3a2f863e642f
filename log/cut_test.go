package log_test

import (
	"math"
	"math/rand"
	"testing"

	"reeve/api"
	"reeve/disk"
	"reeve/log"
)

// P7.4: cuts, and what epochs leave to each other.

// wantBehindACut holds the log that Open answers against the units that were
// answered OK, behind which the one that was under way may be, whole.
func wantBehindACut(t *testing.T, what string, d *disk.Disk, from, count int, epoch uint64, units [][]byte, lost []byte) {
	t.Helper()
	l := mustOpen(t, d, from, count, epoch)
	if got := l.Units(); len(got) > len(units) && lost != nil {
		units = append(units[:len(units):len(units)], lost)
	}
	wantLog(t, what, l, count, units)
}

func TestCutBehindEachBlock(t *testing.T) {
	d := disk.New(80)
	l := mustOpen(t, d, 1, 79, 5)
	// behind tells of each write how many units were whole behind it.
	behind := []int{0}
	for n := range 25 {
		u := unitOf(n, 1+n*97%900)
		mustAppend(t, l, u)
		for range takes(u) - 1 {
			behind = append(behind, n)
		}
		behind = append(behind, n+1)
	}
	wantWrites(t, "appended", d, len(behind)-1)
	units := l.Units()
	for n, whole := range behind {
		var lost []byte
		if whole < len(units) {
			lost = units[whole]
		}
		wantBehindACut(t, "cut", d.Cut(n), 1, 79, 5, units[:whole], lost)
	}
}

// What a unit that was lost has left lies beside what comes behind it: the next
// ones take the same blocks, or fewer, or more, and some of them are lost too.
func TestLostUnitsOneBehindTheOther(t *testing.T) {
	const count = 12
	for first := 1; first <= 4; first++ {
		for second := 1; second <= 4; second++ {
			for third := 1; third <= 4; third++ {
				d := disk.New(count)
				mustAppend(t, mustOpen(t, d, 0, count, 1), []byte("kept"))
				want := texts("kept")
				for k, blocks := range []int{first, second, third} {
					l := mustOpen(t, d, 0, count, 1)
					wantLog(t, "opened behind a lost one", l, count, want)
					lose(t, d, l, unitOf(k, blocks*233), blocks-1)
					wantOpened(t, "lost", d, 0, count, 1, want)
				}
				l := mustOpen(t, d, 0, count, 1)
				for n := range 4 {
					u := unitOf(50+n, 1+n%2*233)
					mustAppend(t, l, u)
					want = append(want, u)
					wantOpened(t, "behind lost ones", d, 0, count, 1, want)
				}
			}
		}
	}
}

// Each of a lost unit's blocks, beside each of the next one's.
func TestCutsAmongLostUnits(t *testing.T) {
	const count = 8
	for old := 1; old <= 5; old++ {
		for oldDone := range old {
			for size := 1; size <= 5; size++ {
				for done := range size {
					d := disk.New(count)
					lose(t, d, mustOpen(t, d, 0, count, 1), unitOf(1, old*233), oldDone)
					lose(t, d, mustOpen(t, d, 0, count, 1), unitOf(2, size*233), done)
					wantOpened(t, "two lost ones", d, 0, count, 1, nil)
					l := mustOpen(t, d, 0, count, 1)
					mustAppend(t, l, []byte("a"))
					wantOpened(t, "a short one ahead of what is left", d, 0, count, 1, texts("a"))
					lose(t, d, l, unitOf(3, 2*233), 1)
					wantOpened(t, "three lost ones", d, 0, count, 1, texts("a"))
				}
			}
		}
	}
}

func TestEpochsLeaveNothingToEachOther(t *testing.T) {
	epochs := []uint64{0, 1, 2, 3, 255, 256, 257, 65536, 1 << 24, 1 << 32, 1<<32 + 1, 1 << 40, 1 << 48, 1 << 56, 1<<56 + 1, 1 << 63, math.MaxUint64}
	const count = 9
	for i, old := range epochs {
		for _, epoch := range epochs[i+1:] {
			d := disk.New(count)
			l := mustOpen(t, d, 0, count, old)
			for n := range 3 {
				mustAppend(t, l, unitOf(n, 2*233))
			}
			lose(t, d, l, unitOf(8, 3*233), 2)
			// The next epoch's units end where the last one's began, and in the midst of them.
			l = mustOpen(t, d, 0, count, epoch)
			wantLog(t, "nothing appended", l, count, nil)
			var want [][]byte
			for n := range 6 {
				u := unitOf(20+n, 1)
				mustAppend(t, l, u)
				want = append(want, u)
				wantOpened(t, "ahead of the last epoch's", d, 0, count, epoch, want)
			}
		}
	}
}

// A unit of the new epoch that is lost has the old one's last block behind it.
func TestALostUnitAheadOfTheLastEpochsBlocks(t *testing.T) {
	const count = 6
	for size := 1; size <= count; size++ {
		for done := range size {
			d := disk.New(count)
			l := mustOpen(t, d, 0, count, 1)
			mustAppend(t, l, unitOf(1, size*233))
			mustReset(t, l, 2)
			lose(t, d, l, unitOf(2, size*233), done)
			wantOpened(t, "the new epoch", d, 0, count, 2, nil)
			l = mustOpen(t, d, 0, count, 2)
			mustAppend(t, l, []byte("x"))
			wantOpened(t, "the new epoch", d, 0, count, 2, texts("x"))
		}
	}
}

// state is what a log was at some time, and how many writes its disk had done.
type state struct {
	writes int
	epoch  uint64
	units  [][]byte
	// lost is the unit of the Append behind it, if that was one.
	lost []byte
}

// game plays random calls on a log, and keeps what the log should be in memory.
type game struct {
	t           *testing.T
	r           *rand.Rand
	d           *disk.Disk
	l           *log.Log
	from, count int
	epoch       uint64
	units       [][]byte
	over        bool
	states      []state
}

// note keeps what the log is now.
func (g *game) note(next []byte) {
	units := g.units[:len(g.units):len(g.units)]
	g.states = append(g.states, state{g.d.Writes(), g.epoch, units, next})
}

// size is that of a unit: of few blocks mostly, and at the edges between them.
func (g *game) size() int {
	switch g.r.Intn(12) {
	case 0:
		return 0
	case 1:
		return 60001
	case 2:
		return g.r.Intn(3000)
	case 3, 4, 5:
		return max(g.r.Intn(5)*233+g.r.Intn(3)-1, 1)
	}
	return 1 + g.r.Intn(900)
}

// wanted tells what Append should answer.
func (g *game) wanted(unit []byte, down bool) api.Errno {
	switch {
	case g.over:
		return api.ErrLost
	case len(unit) == 0:
		return api.ErrArg
	case len(unit) > api.MaxUnit:
		return api.ErrLong
	case g.count-allTake(g.units) < takes(unit):
		return api.ErrFull
	case down:
		return api.ErrLost
	}
	return api.OK
}

func (g *game) appendOne() {
	g.t.Helper()
	unit := unitOf(g.r.Intn(1000), g.size())
	g.note(unit)
	before := g.d.Writes()
	e := g.l.Append(unit)
	// A log that isn't over finds the disk up, or takes it down.
	if want := g.wanted(unit, g.d.Down()); e != want {
		g.t.Fatalf("Append(%d bytes): %v; not %v", len(unit), e, want)
	}
	switch e {
	case api.OK:
		g.units = append(g.units[:len(g.units):len(g.units)], unit)
		wantWrites(g.t, "Append", g.d, before+takes(unit))
	case api.ErrLost:
		g.over = true
	default:
		wantWrites(g.t, "a wrong Append", g.d, before)
	}
}

func (g *game) reset() {
	g.t.Helper()
	epoch := g.epoch + uint64(g.r.Intn(3))
	want := api.OK
	switch {
	case g.over:
		want = api.ErrLost
	case epoch <= g.epoch:
		want = api.ErrRange
	}
	wantReset(g.t, "the game", g.l, epoch, want)
	if want == api.OK {
		g.epoch, g.units = epoch, nil
	}
}

// open opens the log, perhaps of a higher epoch, and takes what it has: behind
// a lost Append that may be one unit more.
func (g *game) open() {
	g.t.Helper()
	g.d.Restart()
	if g.r.Intn(4) == 0 {
		g.epoch++
		g.units = nil
	}
	g.l, g.over = mustOpen(g.t, g.d, g.from, g.count, g.epoch), false
	if got := g.l.Units(); len(got) < len(g.units) || len(got) > len(g.units)+1 || !sameUnits(got[:len(g.units)], g.units) {
		g.t.Fatalf("opened: units of %v bytes; not of %v, or others", sizes(got), sizes(g.units))
	}
	g.units = g.l.Units()
}

func (g *game) play(calls int) {
	g.t.Helper()
	for range calls {
		switch g.r.Intn(10) {
		case 0, 1:
			g.d.SetFuse(g.r.Intn(9))
		case 2:
			g.open()
		case 3:
			g.reset()
		default:
			g.appendOne()
		}
		if g.d.Down() && g.r.Intn(2) == 0 {
			g.open()
		}
		wantLog(g.t, "the game", g.l, g.count, g.units)
		g.note(nil)
	}
}

// holdCuts opens the disk cut behind each of its writes, from the first state
// on, with the epochs that the log had then.
func (g *game) holdCuts() {
	g.t.Helper()
	for i, s := range g.states {
		end := s.writes
		if i+1 < len(g.states) {
			// Behind the last write of an Append its unit is there.
			end = max(end, g.states[i+1].writes-1)
		}
		for n := s.writes; n <= end; n++ {
			wantBehindACut(g.t, "cut", g.d.Cut(n), g.from, g.count, s.epoch, s.units, s.lost)
		}
	}
}

// Random calls with fuses, restarts, Opens and Resets; then the disk is cut
// behind one of its writes, and the game goes on upon the cut.
func TestManyCallsAgainstAModel(t *testing.T) {
	for seed := range 120 {
		r := rand.New(rand.NewSource(int64(seed)))
		from, count := r.Intn(4), 1+r.Intn(30)
		d := disk.New(from + count + r.Intn(3))
		g := &game{t: t, r: r, d: d, from: from, count: count, epoch: uint64(r.Intn(3))}
		g.l = mustOpen(t, d, from, count, g.epoch)
		g.note(nil)
		for range 3 {
			g.play(40)
			g.holdCuts()
			if t.Failed() {
				t.Fatalf("seed %d", seed)
			}
			g.cut()
		}
	}
}

// cut goes on upon the disk as it was in one of the states.
func (g *game) cut() {
	g.t.Helper()
	s := g.states[g.r.Intn(len(g.states))]
	g.d = g.d.Cut(s.writes)
	g.epoch, g.units, g.states = s.epoch, s.units, nil
	g.open()
	g.note(nil)
}
