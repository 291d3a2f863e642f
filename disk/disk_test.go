package disk_test

import (
	"bytes"
	"math"
	"math/rand"
	"slices"
	"testing"

	"reeve/api"
	"reeve/disk"
)

var (
	belowNought = []int{-1, -2, -255, -256, -257, -65536, math.MinInt32, math.MinInt + 1, math.MinInt}
	farAbove    = []int{65537, 1 << 20, math.MaxInt32, 1 << 32, 1<<32 + 1, math.MaxInt - 1, math.MaxInt}
	wrongSizes  = []int{0, 1, 2, 128, 254, 255, 257, 258, 511, 512, 1024}
)

// noughts is a block as it is ahead of its first write.
func noughts() []byte { return make([]byte, api.BlockSize) }

// blockOf is a block whose bytes all differ from those of its neighbours, from other starts and from 0.
func blockOf(start int) []byte {
	b := make([]byte, api.BlockSize)
	for i := range b {
		b[i] = byte((start*31+i)%255 + 1)
	}
	return b
}

// wantErrno holds an answered Errno against what it should be.
func wantErrno(t *testing.T, what string, got, want api.Errno) {
	t.Helper()
	if got != want {
		t.Errorf("%s: %v; not %v", what, got, want)
	}
}

// wantInt holds one number against what it should be.
func wantInt(t *testing.T, what string, got, want int) {
	t.Helper()
	if got != want {
		t.Errorf("%s: %d; not %d", what, got, want)
	}
}

// wantDown holds Down against what it should be.
func wantDown(t *testing.T, d *disk.Disk, want bool) {
	t.Helper()
	if d.Down() != want {
		t.Errorf("Down: %t", d.Down())
	}
}

// mustWrite does a write that nothing stands against.
func mustWrite(t *testing.T, d *disk.Disk, i int, block []byte) {
	t.Helper()
	if e := d.Write(i, block); e != api.OK {
		t.Fatalf("Write(%d): %v", i, e)
	}
}

// wantBlock holds one block against what it should be.
func wantBlock(t *testing.T, d *disk.Disk, i int, want []byte) {
	t.Helper()
	got, e := d.Read(i)
	if e != api.OK || !bytes.Equal(got, want) {
		t.Errorf("Read(%d): %x, %v; not %x", i, got, e, want)
	}
}

// wantLost holds that a read is answered ErrLost, and tells nothing.
func wantLost(t *testing.T, d *disk.Disk, i int) {
	t.Helper()
	if got, e := d.Read(i); e != api.ErrLost || len(got) != 0 {
		t.Errorf("Read(%d): %x, %v; not ErrLost", i, got, e)
	}
}

// wantPlaces holds which blocks were written, in order, against what Writes and Written tell.
func wantPlaces(t *testing.T, d *disk.Disk, places []int) {
	t.Helper()
	wantInt(t, "Writes", d.Writes(), len(places))
	for n, i := range places {
		wantInt(t, "Written", d.Written(n), i)
	}
	wantInt(t, "Written behind the last", d.Written(len(places)), -1)
}

// wantWhole holds all of a disk that is up against its blocks and the places that were written.
func wantWhole(t *testing.T, d *disk.Disk, blocks [][]byte, places []int) {
	t.Helper()
	wantInt(t, "Blocks", d.Blocks(), len(blocks))
	wantDown(t, d, false)
	for i, b := range blocks {
		wantBlock(t, d, i, b)
	}
	wantPlaces(t, d, places)
}

// wantNoFuse holds that a disk is up without a fuse, by more writes than any fuse here lets be done.
func wantNoFuse(t *testing.T, d *disk.Disk) {
	t.Helper()
	for n := range 40 {
		wantErrno(t, "Write without a fuse", d.Write(0, blockOf(n)), api.OK)
	}
	wantDown(t, d, false)
}

// P5.1: blocks, written and read.

func TestExample(t *testing.T) {
	d := disk.New(2)
	d.SetFuse(1)
	wantErrno(t, "first Write", d.Write(0, blockOf(1)), api.OK)
	wantErrno(t, "second Write", d.Write(1, blockOf(2)), api.ErrLost)
	wantDown(t, d, true)
	d.Restart()
	wantDown(t, d, false)
	wantWhole(t, d, [][]byte{blockOf(1), noughts()}, []int{0})
	wantWhole(t, d.Cut(0), [][]byte{noughts(), noughts()}, nil)
}

func TestNewMakesThatManyBlocks(t *testing.T) {
	for _, many := range []int{0, 1, 2, 3, 24, 255, 256, 257, 65535, 65536} {
		wantInt(t, "Blocks", disk.New(many).Blocks(), many)
	}
	for _, many := range belowNought {
		wantInt(t, "Blocks of below 0", disk.New(many).Blocks(), 0)
	}
	for _, many := range farAbove {
		wantInt(t, "Blocks of above MostBlocks", disk.New(many).Blocks(), api.MostBlocks)
	}
}

func TestNewDiskIsUpAllNoughtsUnwritten(t *testing.T) {
	d := disk.New(5)
	wantWhole(t, d, slices.Repeat([][]byte{noughts()}, 5), nil)
	wantNoFuse(t, d)
}

func TestFirstAndLastBlockOfTheGreatestDisk(t *testing.T) {
	d := disk.New(math.MaxInt)
	mustWrite(t, d, 0, blockOf(1))
	mustWrite(t, d, 65535, blockOf(2))
	wantBlock(t, d, 0, blockOf(1))
	wantBlock(t, d, 1, noughts())
	wantBlock(t, d, 65534, noughts())
	wantBlock(t, d, 65535, blockOf(2))
	wantErrno(t, "Write(65536)", d.Write(65536, blockOf(3)), api.ErrArg)
	wantPlaces(t, d, []int{0, 65535})
}

func TestWriteIsThereInItsBlockAlone(t *testing.T) {
	for i := range 4 {
		d := disk.New(4)
		want := slices.Repeat([][]byte{noughts()}, 4)
		mustWrite(t, d, i, blockOf(9))
		want[i] = blockOf(9)
		wantWhole(t, d, want, []int{i})
	}
}

func TestLastWriteOfABlockHolds(t *testing.T) {
	d := disk.New(3)
	mustWrite(t, d, 1, blockOf(1))
	mustWrite(t, d, 2, blockOf(2))
	mustWrite(t, d, 1, blockOf(3))
	wantWhole(t, d, [][]byte{noughts(), blockOf(3), blockOf(2)}, []int{1, 2, 1})
	mustWrite(t, d, 1, noughts())
	wantWhole(t, d, [][]byte{noughts(), noughts(), blockOf(2)}, []int{1, 2, 1, 1})
}

func TestSameBytesAgainIsAWriteToo(t *testing.T) {
	d := disk.New(1)
	mustWrite(t, d, 0, noughts())
	mustWrite(t, d, 0, noughts())
	wantWhole(t, d, [][]byte{noughts()}, []int{0, 0})
}

func TestReadChangesNothing(t *testing.T) {
	d := disk.New(2)
	d.SetFuse(2)
	mustWrite(t, d, 0, blockOf(1))
	for range 3 {
		wantBlock(t, d, 0, blockOf(1))
		wantBlock(t, d, 1, noughts())
	}
	wantPlaces(t, d, []int{0})
	wantErrno(t, "Write within the fuse", d.Write(0, blockOf(2)), api.OK)
	wantErrno(t, "Write behind the fuse", d.Write(0, blockOf(3)), api.ErrLost)
}

func TestNoSuchBlock(t *testing.T) {
	for _, many := range []int{0, 1, 3, 256} {
		d := disk.New(many)
		for _, i := range slices.Concat(belowNought, farAbove, []int{many, many + 1, 65535 + many, 65536}) {
			wantErrno(t, "Write of no block", d.Write(i, blockOf(1)), api.ErrArg)
			if got, e := d.Read(i); e != api.ErrArg || len(got) != 0 {
				t.Errorf("Read(%d): %x, %v", i, got, e)
			}
		}
		wantWhole(t, d, slices.Repeat([][]byte{noughts()}, many), nil)
	}
}

func TestBlockOfAnotherSize(t *testing.T) {
	d := disk.New(2)
	mustWrite(t, d, 0, blockOf(1))
	wantErrno(t, "Write of nil", d.Write(0, nil), api.ErrArg)
	for _, size := range wrongSizes {
		wantErrno(t, "Write of another size", d.Write(0, make([]byte, size)), api.ErrArg)
		wantErrno(t, "Write of another size, to no block", d.Write(2, make([]byte, size)), api.ErrArg)
	}
	roomy := make([]byte, 255, 512)
	wantErrno(t, "Write of 255 bytes with spare room", d.Write(0, roomy), api.ErrArg)
	wantWhole(t, d, [][]byte{blockOf(1), noughts()}, []int{0})
}

// Fuses, of P5.1 and P5.2.

func TestFuseLetsJustThatManyWritesBeDone(t *testing.T) {
	for fuse := range 6 {
		d := disk.New(8)
		mustWrite(t, d, 7, blockOf(7))
		want := slices.Repeat([][]byte{noughts()}, 8)
		want[7] = blockOf(7)
		places := []int{7}
		d.SetFuse(fuse)
		wantDown(t, d, false)
		for i := range fuse {
			wantErrno(t, "Write within the fuse", d.Write(i, blockOf(i)), api.OK)
			want[i] = blockOf(i)
			places = append(places, i)
			wantWhole(t, d, want, places)
		}
		wantErrno(t, "Write behind the fuse", d.Write(6, blockOf(6)), api.ErrLost)
		wantDown(t, d, true)
		wantPlaces(t, d, places)
		d.Restart()
		wantWhole(t, d, want, places)
	}
}

func TestDownDiskDoesAndReadsNothing(t *testing.T) {
	d := disk.New(3)
	mustWrite(t, d, 1, blockOf(1))
	d.SetFuse(0)
	wantErrno(t, "Write behind the fuse", d.Write(0, blockOf(2)), api.ErrLost)
	for range 3 {
		for _, i := range []int{0, 1, 2} {
			wantErrno(t, "Write while down", d.Write(i, blockOf(3)), api.ErrLost)
			wantLost(t, d, i)
		}
		wantDown(t, d, true)
		wantInt(t, "Blocks while down", d.Blocks(), 3)
		wantPlaces(t, d, []int{1})
	}
	d.Restart()
	wantWhole(t, d, [][]byte{noughts(), blockOf(1), noughts()}, []int{1})
}

func TestDownIsAskedAheadOfTheArguments(t *testing.T) {
	d := disk.New(1)
	d.SetFuse(0)
	wantErrno(t, "Write behind the fuse", d.Write(0, blockOf(1)), api.ErrLost)
	for _, i := range slices.Concat(belowNought, farAbove, []int{1}) {
		wantErrno(t, "Write of no block while down", d.Write(i, blockOf(1)), api.ErrLost)
		wantLost(t, d, i)
	}
	for _, size := range wrongSizes {
		wantErrno(t, "Write of another size while down", d.Write(0, make([]byte, size)), api.ErrLost)
	}
}

func TestArgumentsAreAskedAheadOfTheFuse(t *testing.T) {
	for fuse := range 3 {
		d := disk.New(1)
		d.SetFuse(fuse)
		for range 5 {
			wantErrno(t, "Write of no block", d.Write(1, blockOf(1)), api.ErrArg)
			wantErrno(t, "Write of another size", d.Write(0, make([]byte, 255)), api.ErrArg)
			wantDown(t, d, false)
		}
		for range fuse {
			wantErrno(t, "Write within the fuse", d.Write(0, blockOf(2)), api.OK)
		}
		wantErrno(t, "Write behind the fuse", d.Write(0, blockOf(3)), api.ErrLost)
		wantDown(t, d, true)
	}
}

func TestSetFuseTakesTheOldOnesPlace(t *testing.T) {
	d := disk.New(1)
	d.SetFuse(0)
	d.SetFuse(2)
	wantErrno(t, "Write", d.Write(0, blockOf(1)), api.OK)
	d.SetFuse(1)
	wantErrno(t, "Write", d.Write(0, blockOf(2)), api.OK)
	wantErrno(t, "Write behind the fuse", d.Write(0, blockOf(3)), api.ErrLost)
	d.Restart()
	d.SetFuse(5)
	d.SetFuse(0)
	wantErrno(t, "Write behind a fuse of 0", d.Write(0, blockOf(4)), api.ErrLost)
}

func TestSetFuseBelowNoughtIsNone(t *testing.T) {
	for _, n := range belowNought {
		for _, old := range []int{-1, 0, 1, 3} {
			d := disk.New(1)
			d.SetFuse(old)
			d.SetFuse(n)
			wantNoFuse(t, d)
		}
	}
}

func TestGreatFuses(t *testing.T) {
	for _, n := range farAbove {
		d := disk.New(1)
		d.SetFuse(n)
		wantNoFuse(t, d)
	}
}

func TestSetFuseBringsNoDiskUp(t *testing.T) {
	for _, n := range []int{math.MinInt, -1, 0, 1, 9, math.MaxInt} {
		d := disk.New(1)
		d.SetFuse(0)
		wantErrno(t, "Write behind the fuse", d.Write(0, blockOf(1)), api.ErrLost)
		d.SetFuse(n)
		wantDown(t, d, true)
		wantErrno(t, "Write while down", d.Write(0, blockOf(1)), api.ErrLost)
		wantLost(t, d, 0)
		d.Restart()
		wantWhole(t, d, [][]byte{noughts()}, nil)
		wantNoFuse(t, d)
	}
}

func TestRestartTakesTheFuseAway(t *testing.T) {
	for fuse := range 4 {
		d := disk.New(2)
		mustWrite(t, d, 1, blockOf(5))
		d.SetFuse(fuse)
		d.Restart()
		wantWhole(t, d, [][]byte{noughts(), blockOf(5)}, []int{1})
		wantNoFuse(t, d)
	}
}

func TestManyFusesOneBehindTheOther(t *testing.T) {
	d := disk.New(2)
	for round := range 10 {
		d.SetFuse(1)
		mustWrite(t, d, round%2, blockOf(round))
		wantErrno(t, "Write behind the fuse", d.Write(0, blockOf(99)), api.ErrLost)
		wantDown(t, d, true)
		d.Restart()
		wantBlock(t, d, round%2, blockOf(round))
		wantInt(t, "Writes", d.Writes(), round+1)
	}
	wantWhole(t, d, [][]byte{blockOf(8), blockOf(9)}, []int{0, 1, 0, 1, 0, 1, 0, 1, 0, 1})
}

// P5.2: the writes that were done.

func TestWrittenOfNoWrite(t *testing.T) {
	d := disk.New(3)
	for range 2 {
		for _, n := range slices.Concat(belowNought, farAbove, []int{2, 3}) {
			wantInt(t, "Written of no write", d.Written(n), -1)
		}
		mustWrite(t, d, 2, blockOf(1))
	}
	wantPlaces(t, d, []int{2, 2})
}

func TestLostAndWrongWritesDontCount(t *testing.T) {
	d := disk.New(3)
	mustWrite(t, d, 2, blockOf(1))
	d.Write(3, blockOf(1))
	d.Write(0, nil)
	d.SetFuse(1)
	mustWrite(t, d, 0, blockOf(2))
	d.Write(1, blockOf(3))
	d.Write(1, blockOf(3))
	wantPlaces(t, d, []int{2, 0})
	d.Restart()
	mustWrite(t, d, 1, blockOf(4))
	wantPlaces(t, d, []int{2, 0, 1})
}

// P5.3: cuts.

// cutPlaces are the blocks that the disk of the cuts' tests was written to, in order.
var cutPlaces = []int{3, 0, 3, 4, 0, 0, 2, 3}

// written is a disk of 5 blocks with the writes of cutPlaces, each with another block.
func written(t *testing.T) *disk.Disk {
	t.Helper()
	d := disk.New(5)
	for n, i := range cutPlaces {
		mustWrite(t, d, i, blockOf(n))
	}
	return d
}

// statesOf tells what the blocks are behind the first n of cutPlaces.
func statesOf(n int) [][]byte {
	blocks := slices.Repeat([][]byte{noughts()}, 5)
	for k, i := range cutPlaces[:n] {
		blocks[i] = blockOf(k)
	}
	return blocks
}

func TestCutBehindEachWrite(t *testing.T) {
	d := written(t)
	for n := range len(cutPlaces) + 1 {
		wantWhole(t, d.Cut(n), statesOf(n), cutPlaces[:n])
		wantNoFuse(t, d.Cut(n))
	}
	wantWhole(t, d, statesOf(len(cutPlaces)), cutPlaces)
}

func TestCutOfMoreIsAllAndBelowNoughtNone(t *testing.T) {
	d := written(t)
	all := len(cutPlaces)
	for _, n := range append(slices.Clone(farAbove), all, all+1, all+2) {
		wantWhole(t, d.Cut(n), statesOf(all), cutPlaces)
	}
	for _, n := range append(slices.Clone(belowNought), 0) {
		wantWhole(t, d.Cut(n), statesOf(0), nil)
	}
}

func TestCutOfDownDiskIsUpWithoutAFuse(t *testing.T) {
	d := written(t)
	d.SetFuse(0)
	wantErrno(t, "Write behind the fuse", d.Write(1, blockOf(77)), api.ErrLost)
	for _, n := range []int{-1, 0, 3, 8, 9} {
		many := min(max(n, 0), len(cutPlaces))
		wantWhole(t, d.Cut(n), statesOf(many), cutPlaces[:many])
		wantNoFuse(t, d.Cut(n))
	}
	wantDown(t, d, true)
	wantLost(t, d, 0)
}

func TestCutLeavesTheFuseAsItIs(t *testing.T) {
	d := written(t)
	d.SetFuse(1)
	wantNoFuse(t, d.Cut(4))
	wantErrno(t, "Write within the fuse", d.Write(1, blockOf(1)), api.OK)
	wantErrno(t, "Write behind the fuse", d.Write(1, blockOf(2)), api.ErrLost)
}

func TestCutAndItsDiskAreApart(t *testing.T) {
	for n := range len(cutPlaces) + 1 {
		d := written(t)
		first, second := d.Cut(n), d.Cut(n)
		for k := range 20 {
			mustWrite(t, first, k%5, blockOf(100+k))
		}
		wantWhole(t, d, statesOf(len(cutPlaces)), cutPlaces)
		wantWhole(t, second, statesOf(n), cutPlaces[:n])
		for k := range 20 {
			mustWrite(t, d, k%5, blockOf(200+k))
		}
		wantWhole(t, second, statesOf(n), cutPlaces[:n])
		wantBlock(t, first, 0, blockOf(115))
		wantInt(t, "Writes of the first cut", first.Writes(), n+20)
		first.SetFuse(0)
		wantErrno(t, "Write behind the fuse", first.Write(0, blockOf(1)), api.ErrLost)
		wantDown(t, d, false)
		wantDown(t, second, false)
	}
}

func TestCutOfACut(t *testing.T) {
	c := written(t).Cut(6)
	for n := range 7 {
		wantWhole(t, c.Cut(n), statesOf(n), cutPlaces[:n])
	}
	wantWhole(t, c.Cut(7), statesOf(6), cutPlaces[:6])
	cut := c.Cut(2)
	mustWrite(t, cut, 1, blockOf(50))
	wantPlaces(t, cut, []int{3, 0, 1})
	want := statesOf(2)
	want[1] = blockOf(50)
	wantWhole(t, cut.Cut(3), want, []int{3, 0, 1})
}

func TestCutBehindARestart(t *testing.T) {
	d := disk.New(2)
	mustWrite(t, d, 0, blockOf(1))
	d.SetFuse(0)
	d.Write(1, blockOf(2))
	d.Restart()
	mustWrite(t, d, 1, blockOf(3))
	wantWhole(t, d.Cut(1), [][]byte{blockOf(1), noughts()}, []int{0})
	wantWhole(t, d.Cut(2), [][]byte{blockOf(1), blockOf(3)}, []int{0, 1})
}

func TestDiskWithoutBlocks(t *testing.T) {
	for _, d := range []*disk.Disk{disk.New(0), disk.New(-5), {}} {
		d.SetFuse(0)
		wantErrno(t, "Write", d.Write(0, blockOf(1)), api.ErrArg)
		if got, e := d.Read(0); e != api.ErrArg || len(got) != 0 {
			t.Errorf("Read: %x, %v", got, e)
		}
		d.Restart()
		wantWhole(t, d, nil, nil)
		wantWhole(t, d.Cut(3), nil, nil)
	}
}

// R1 and P5.3: a nil disk.

func TestNilDisk(t *testing.T) {
	var d *disk.Disk
	for range 2 {
		wantInt(t, "Blocks", d.Blocks(), 0)
		wantInt(t, "Writes", d.Writes(), 0)
		wantDown(t, d, true)
		for _, n := range slices.Concat(belowNought, farAbove, []int{0, 1}) {
			// It is down, and that is asked first.
			wantErrno(t, "Write", d.Write(n, blockOf(1)), api.ErrLost)
			wantErrno(t, "Write of nothing", d.Write(n, nil), api.ErrLost)
			wantLost(t, d, n)
			wantInt(t, "Written", d.Written(n), -1)
			if d.Cut(n) != nil {
				t.Errorf("Cut(%d) isn't nil", n)
			}
			d.SetFuse(n)
		}
		d.Restart()
	}
}

// R2: the same calls, the same answers.

func TestEachDiskIsForItself(t *testing.T) {
	first, second := disk.New(2), disk.New(2)
	first.SetFuse(1)
	mustWrite(t, first, 0, blockOf(1))
	first.Write(0, blockOf(2))
	wantWhole(t, second, [][]byte{noughts(), noughts()}, nil)
	wantNoFuse(t, second)
}

// model is a disk as the chapter's words tell it: every write in full, replayed whenever it is asked.
type model struct {
	many   int
	places []int
	blocks [][]byte
	fuse   int
	down   bool
}

func (m *model) write(i int, block []byte) api.Errno {
	switch {
	case m.down:
		return api.ErrLost
	case i < 0 || i >= m.many || len(block) != 256:
		return api.ErrArg
	case m.fuse == 0:
		m.down = true
		return api.ErrLost
	}
	m.fuse--
	m.places = append(m.places, i)
	m.blocks = append(m.blocks, slices.Clone(block))
	return api.OK
}

// state replays the first n writes.
func (m *model) state(n int) [][]byte {
	blocks := slices.Repeat([][]byte{noughts()}, m.many)
	for k, i := range m.places[:n] {
		blocks[i] = m.blocks[k]
	}
	return blocks
}

func TestManyCallsAgainstAModel(t *testing.T) {
	for seed := range 40 {
		r := rand.New(rand.NewSource(int64(seed)))
		m := &model{many: r.Intn(7), fuse: -1}
		d := disk.New(m.many)
		for range 200 {
			step(t, r, m, d)
			wantDown(t, d, m.down)
			wantInt(t, "Blocks", d.Blocks(), m.many)
			wantPlaces(t, d, m.places)
		}
		d.Restart()
		wantWhole(t, d, m.state(len(m.places)), m.places)
		for n := range len(m.places) + 1 {
			wantWhole(t, d.Cut(n), m.state(n), m.places[:n])
		}
		if t.Failed() {
			t.Fatalf("seed %d", seed)
		}
	}
}

// step makes one call of the disk and of the model, and holds their answers against each other.
func step(t *testing.T, r *rand.Rand, m *model, d *disk.Disk) {
	t.Helper()
	i := r.Intn(m.many+2) - 1
	switch r.Intn(10) {
	case 0:
		n := r.Intn(12) - 2
		d.SetFuse(n)
		m.fuse = n
	case 1:
		d.Restart()
		m.fuse, m.down = -1, false
	case 2, 3, 4:
		got, e := d.Read(i)
		var want []byte
		wantE := api.OK
		switch {
		case m.down:
			wantE = api.ErrLost
		case i < 0 || i >= m.many:
			wantE = api.ErrArg
		default:
			want = m.state(len(m.places))[i]
		}
		if e != wantE || !bytes.Equal(got, want) {
			t.Errorf("Read(%d): %x, %v; not %x, %v", i, got, e, want, wantE)
		}
	default:
		block := make([]byte, 256-r.Intn(8)/7)
		r.Read(block)
		wantErrno(t, "Write", d.Write(i, block), m.write(i, block))
	}
}

// R3: memory.

// fill overwrites a list and its spare room.
func fill(list []byte) {
	list = list[:cap(list)]
	for i := range list {
		list[i] = 0xee
	}
}

func TestWrittenBlockStaysAsItIsAndIsNotKept(t *testing.T) {
	d := disk.New(2)
	room := append(blockOf(1), 9, 8, 7)
	mustWrite(t, d, 0, room[:256])
	if !bytes.Equal(room, append(blockOf(1), 9, 8, 7)) {
		t.Errorf("the block or its spare room was changed: %x", room)
	}
	fill(room)
	wantBlock(t, d, 0, blockOf(1))
	wantBlock(t, d.Cut(1), 0, blockOf(1))
	mustWrite(t, d, 1, room[:256])
	wantBlock(t, d, 0, blockOf(1))
}

func TestReadAnswersAreNewMemory(t *testing.T) {
	d := disk.New(2)
	mustWrite(t, d, 0, blockOf(1))
	cut := d.Cut(1)
	for i, want := range [][]byte{blockOf(1), noughts()} {
		first, _ := d.Read(i)
		second, _ := d.Read(i)
		fill(first)
		if !bytes.Equal(second, want) {
			t.Errorf("two answers of Read(%d) share memory", i)
		}
		wantBlock(t, d, i, want)
		wantBlock(t, cut, i, want)
	}
	wantBlock(t, d.Cut(1), 0, blockOf(1))
	wantBlock(t, disk.New(1), 0, noughts())
}
