package log_test

import (
	"bytes"
	"math"
	"slices"
	"testing"

	"reeve/api"
	"reeve/disk"
	"reeve/log"
	"reeve/super"
)

// unitOf makes a unit of that many bytes, which differ from those of other starts.
func unitOf(start, size int) []byte {
	b := make([]byte, size)
	for i := range b {
		b[i] = byte(start*31 + i*7 + i/256)
	}
	return b
}

// blockOf is a block that nobody sealed.
func blockOf(start int) []byte { return unitOf(start, api.BlockSize) }

// takes tells how many blocks a unit takes, as the chapter tells it.
func takes(unit []byte) int { return (len(unit) + 232) / 233 }

// allTake tells how many blocks units take together.
func allTake(units [][]byte) int {
	sum := 0
	for _, u := range units {
		sum += takes(u)
	}
	return sum
}

func sameUnits(a, b [][]byte) bool { return slices.EqualFunc(a, b, bytes.Equal) }

// sizes tells the units' sizes, which is enough to see what is wrong.
func sizes(units [][]byte) []int {
	var list []int
	for _, u := range units {
		list = append(list, len(u))
	}
	return list
}

// texts makes units of texts.
func texts(list ...string) [][]byte {
	var units [][]byte
	for _, s := range list {
		units = append(units, []byte(s))
	}
	return units
}

// mustOpen opens a log that nothing stands against.
func mustOpen(t *testing.T, d *disk.Disk, from, count int, epoch uint64) *log.Log {
	t.Helper()
	l, e := log.Open(d, from, count, epoch)
	if e != api.OK || l == nil {
		t.Fatalf("Open(%d, %d, %d): %v, %v", from, count, epoch, l, e)
	}
	return l
}

// mustAppend does an Append that nothing stands against.
func mustAppend(t *testing.T, l *log.Log, units ...[]byte) {
	t.Helper()
	for _, u := range units {
		if e := l.Append(u); e != api.OK {
			t.Fatalf("Append(%d bytes): %v", len(u), e)
		}
	}
}

// mustReset does a Reset that nothing stands against.
func mustReset(t *testing.T, l *log.Log, epoch uint64) {
	t.Helper()
	if e := l.Reset(epoch); e != api.OK {
		t.Fatalf("Reset(%d): %v", epoch, e)
	}
}

// wantLog holds a log of an area of count blocks against what it should be.
func wantLog(t *testing.T, what string, l *log.Log, count int, units [][]byte) {
	t.Helper()
	if got := l.Units(); !sameUnits(got, units) {
		t.Errorf("%s: units of %v bytes; not of %v, or others", what, sizes(got), sizes(units))
	}
	if room := count - allTake(units); l.Room() != room {
		t.Errorf("%s: room %d; not %d", what, l.Room(), room)
	}
}

// wantOpened holds the log that Open answers against what it should be.
func wantOpened(t *testing.T, what string, d *disk.Disk, from, count int, epoch uint64, units [][]byte) {
	t.Helper()
	wantLog(t, what, mustOpen(t, d, from, count, epoch), count, units)
}

// wantNoOpen asks for an Open that is refused.
func wantNoOpen(t *testing.T, what string, d *disk.Disk, from, count int, want api.Errno) {
	t.Helper()
	for _, epoch := range []uint64{0, 1, math.MaxUint64} {
		if l, e := log.Open(d, from, count, epoch); l != nil || e != want {
			t.Errorf("%s: Open(%d, %d, %d): %v, %v; not nil, %v", what, from, count, epoch, l, e, want)
		}
	}
}

// wantAppend holds what Append answers against what it should be.
func wantAppend(t *testing.T, what string, l *log.Log, unit []byte, want api.Errno) {
	t.Helper()
	if e := l.Append(unit); e != want {
		t.Errorf("%s: Append(%d bytes): %v; not %v", what, len(unit), e, want)
	}
}

// wantReset holds what Reset answers against what it should be.
func wantReset(t *testing.T, what string, l *log.Log, epoch uint64, want api.Errno) {
	t.Helper()
	if e := l.Reset(epoch); e != want {
		t.Errorf("%s: Reset(%d): %v; not %v", what, epoch, e, want)
	}
}

// wantWrites holds how many writes a disk has done against what it should be.
func wantWrites(t *testing.T, what string, d *disk.Disk, want int) {
	t.Helper()
	if d.Writes() != want {
		t.Errorf("%s: %d writes; not %d", what, d.Writes(), want)
	}
}

// takeDown makes a disk be down by a write that another than a log does.
func takeDown(t *testing.T, d *disk.Disk) {
	t.Helper()
	d.SetFuse(0)
	if e := d.Write(0, blockOf(1)); e != api.ErrLost || !d.Down() {
		t.Fatalf("the disk isn't down: %v", e)
	}
}

// lose has the disk's power fail behind that many of a unit's blocks, and restarts it.
func lose(t *testing.T, d *disk.Disk, l *log.Log, unit []byte, done int) {
	t.Helper()
	before := d.Writes()
	d.SetFuse(done)
	wantAppend(t, "the fuse ends", l, unit, api.ErrLost)
	if !d.Down() {
		t.Fatal("the disk isn't down")
	}
	wantWrites(t, "the fuse ends", d, before+done)
	d.Restart()
}

// The chapter's examples.

func TestExamples(t *testing.T) {
	d := disk.New(4)
	l := mustOpen(t, d, 0, 4, 1)
	mustAppend(t, l, texts("a", "b")...)
	wantOpened(t, "Cut(1)", d.Cut(1), 0, 4, 1, texts("a"))
	l = mustOpen(t, disk.New(4), 0, 4, 1)
	mustAppend(t, l, make([]byte, 234))
	if l.Room() != 2 {
		t.Errorf("room of 4 blocks behind a unit of 234 bytes: %d", l.Room())
	}
}

// P7.1: Open.

func TestOpenOfNoDisk(t *testing.T) {
	for _, area := range [][2]int{{0, 0}, {0, 1}, {1, 1}, {0, -1}, {-1, 1}} {
		wantNoOpen(t, "nil", nil, area[0], area[1], api.ErrArg)
		wantNoOpen(t, "the zero disk", &disk.Disk{}, area[0], area[1], api.ErrArg)
		wantNoOpen(t, "no blocks", disk.New(0), area[0], area[1], api.ErrArg)
	}
}

func TestOpenOfEveryAreaOfASmallDisk(t *testing.T) {
	d := disk.New(5)
	for from := -3; from < 9; from++ {
		for count := -3; count < 9; count++ {
			if from >= 0 && count >= 1 && from+count <= 5 {
				wantOpened(t, "an area", d, from, count, 1, nil)
			} else {
				wantNoOpen(t, "no area", d, from, count, api.ErrArg)
			}
		}
	}
	wantWrites(t, "opened", d, 0)
}

// The ends of such areas wrap round.
func TestOpenOfAreasFarOff(t *testing.T) {
	d := disk.New(5)
	far := []int{math.MaxInt, math.MaxInt - 1, math.MinInt, math.MinInt + 1, math.MinInt + 5, 1 << 32, 1 << 16, -1 << 32}
	near := []int{-1, 0, 1, 4, 5}
	for _, a := range far {
		for _, b := range slices.Concat(far, near) {
			wantNoOpen(t, "far off", d, a, b, api.ErrArg)
			wantNoOpen(t, "far off", d, b, a, api.ErrArg)
		}
	}
}

func TestAreaIsAskedAheadOfTheRead(t *testing.T) {
	d := disk.New(5)
	takeDown(t, d)
	for _, area := range [][2]int{{0, 0}, {-1, 2}, {1, 5}, {5, 1}, {0, 6}} {
		wantNoOpen(t, "no area of a disk that is down", d, area[0], area[1], api.ErrArg)
	}
}

func TestOpenOfADiskThatIsDown(t *testing.T) {
	for units := range 5 {
		d := disk.New(6)
		l := mustOpen(t, d, 1, 4, 7)
		for n := range units {
			mustAppend(t, l, unitOf(n, 1+n))
		}
		takeDown(t, d)
		for range 2 {
			wantNoOpen(t, "down", d, 1, 4, api.ErrLost)
		}
		d.Restart()
		wantOpened(t, "restarted", d, 1, 4, 7, l.Units())
	}
}

func TestOpenOfANewDisk(t *testing.T) {
	d := disk.New(api.MostBlocks)
	for _, epoch := range []uint64{0, 1, 255, 256, 1 << 32, math.MaxUint64} {
		wantOpened(t, "new", d, 0, api.MostBlocks, epoch, nil)
		wantOpened(t, "new", d, api.MostBlocks-1, 1, epoch, nil)
	}
	wantWrites(t, "new", d, 0)
}

func TestBlocksThatAreNoUnits(t *testing.T) {
	d := disk.New(8)
	for i := range 8 {
		if e := d.Write(i, blockOf(i+3)); e != api.OK {
			t.Fatal(e)
		}
	}
	l := mustOpen(t, d, 1, 6, 1)
	wantLog(t, "foreign blocks", l, 6, nil)
	for n := range 3 {
		mustAppend(t, l, unitOf(n, 240))
		wantOpened(t, "foreign blocks behind the units", d, 1, 6, 1, l.Units())
	}
}

func TestOpenWritesNothing(t *testing.T) {
	d := disk.New(20)
	l := mustOpen(t, d, 0, 20, 1)
	for n := range 6 {
		before := d.Writes()
		d.SetFuse(0)
		for range 3 {
			wantOpened(t, "fused", d, 0, 20, 1, l.Units())
			wantOpened(t, "fused, another epoch", d, 0, 20, 2, nil)
		}
		if d.Down() {
			t.Fatal("Open has taken the disk down")
		}
		wantWrites(t, "behind Open", d, before)
		d.Restart()
		mustAppend(t, l, unitOf(n, n*150+1))
	}
}

// P7.2: Append, Units, Room.

func TestUnitsOfManySizes(t *testing.T) {
	d := disk.New(1000)
	l := mustOpen(t, d, 0, 1000, 1)
	epoch := uint64(1)
	var want [][]byte
	var all []int
	for size := 1; size <= 710; size++ {
		all = append(all, size)
	}
	all = append(all, 931, 932, 933, 59880, 59881, 59882, 59999, 60000)
	for _, size := range all {
		u := unitOf(size, size)
		if l.Room() < takes(u) {
			epoch++
			mustReset(t, l, epoch)
			want = nil
		}
		before := d.Writes()
		mustAppend(t, l, u)
		want = append(want, u)
		wantWrites(t, "Append", d, before+takes(u))
		if room := 1000 - allTake(want); l.Room() != room {
			t.Fatalf("%d bytes: room %d; not %d", size, l.Room(), room)
		}
		if size%50 == 0 || size > 700 {
			wantLog(t, "appended", l, 1000, want)
			wantOpened(t, "opened", d, 0, 1000, epoch, want)
		}
	}
}

func TestHowManyBlocksAUnitTakes(t *testing.T) {
	for size, want := range map[int]int{1: 1, 232: 1, 233: 1, 234: 2, 466: 2, 467: 3, 699: 3, 700: 4, 59881: 257, 59882: 258, 60000: 258} {
		d := disk.New(300)
		l := mustOpen(t, d, 0, 300, 1)
		mustAppend(t, l, unitOf(size, size))
		if l.Room() != 300-want || d.Writes() != want {
			t.Errorf("%d bytes: room %d, %d writes; not %d blocks", size, l.Room(), d.Writes(), want)
		}
	}
}

func TestAppendOfNothing(t *testing.T) {
	d := disk.New(3)
	l := mustOpen(t, d, 0, 3, 1)
	mustAppend(t, l, []byte("kept"))
	d.SetFuse(0)
	for _, nothing := range [][]byte{nil, {}, make([]byte, 0, 9)} {
		wantAppend(t, "nothing", l, nothing, api.ErrArg)
	}
	wantLog(t, "nothing", l, 3, texts("kept"))
	wantWrites(t, "nothing", d, 1)
	d.Restart()
	mustAppend(t, l, []byte("next"))
	wantOpened(t, "nothing", d, 0, 3, 1, texts("kept", "next"))
}

// Lengths whose lowest bytes are small ones are long all the same.
func TestAppendOfLongOnes(t *testing.T) {
	d := disk.New(600)
	l := mustOpen(t, d, 0, 600, 1)
	mustAppend(t, l, []byte("kept"))
	d.SetFuse(0)
	for _, size := range []int{60001, 60002, 65535, 65536, 65537, 1 << 17, 1<<24 + 1} {
		wantAppend(t, "a long one", l, make([]byte, size), api.ErrLong)
	}
	wantLog(t, "long ones", l, 600, texts("kept"))
	wantWrites(t, "long ones", d, 1)
	d.Restart()
	longest := unitOf(5, 60000)
	mustAppend(t, l, longest)
	wantOpened(t, "long ones", d, 0, 600, 1, [][]byte{[]byte("kept"), longest})
}

func TestAppendWithoutRoom(t *testing.T) {
	for count := 1; count <= 5; count++ {
		d := disk.New(8)
		l := mustOpen(t, d, 2, count, 1)
		var want [][]byte
		for left := count; left >= 0; left-- {
			d.SetFuse(0)
			wantAppend(t, "a byte more than fits", l, unitOf(1, left*233+1), api.ErrFull)
			wantLog(t, "full", l, count, want)
			wantWrites(t, "full", d, count-left)
			if d.Down() {
				t.Fatal("a full log was written to")
			}
			d.Restart()
			if left > 0 {
				u := unitOf(left, 233)
				mustAppend(t, l, u)
				want = append(want, u)
			}
		}
		wantOpened(t, "full", d, 2, count, 1, want)
		again := mustOpen(t, d, 2, count, 1)
		wantAppend(t, "opened while full", again, []byte("x"), api.ErrFull)
		wantLog(t, "opened while full", again, count, want)
	}
}

func TestUnitsThatJustFillTheArea(t *testing.T) {
	for count := 1; count <= 5; count++ {
		d := disk.New(8)
		l := mustOpen(t, d, 1, count, 1)
		u := unitOf(count, count*233)
		mustAppend(t, l, u)
		wantLog(t, "just fills", l, count, [][]byte{u})
		wantOpened(t, "just fills", d, 1, count, 1, [][]byte{u})
		wantAppend(t, "behind it", l, []byte("x"), api.ErrFull)
	}
	d := disk.New(258)
	l := mustOpen(t, d, 0, 258, 1)
	u := unitOf(1, 60000)
	mustAppend(t, l, u)
	wantOpened(t, "the longest just fills", d, 0, 258, 1, [][]byte{u})
	l = mustOpen(t, disk.New(257), 0, 257, 1)
	wantAppend(t, "the longest doesn't fit", l, u, api.ErrFull)
	wantAppend(t, "a longer one", l, append(u, 0), api.ErrLong)
}

func TestAppendErrorsInTheirOrder(t *testing.T) {
	d := disk.New(2)
	l := mustOpen(t, d, 0, 2, 1)
	mustAppend(t, l, unitOf(1, 234))
	takeDown(t, d)
	long := make([]byte, 60001)
	wantAppend(t, "empty, full and down", l, nil, api.ErrArg)
	wantAppend(t, "long, full and down", l, long, api.ErrLong)
	wantAppend(t, "full and down", l, []byte("x"), api.ErrFull)
	mustReset(t, l, 2)
	wantAppend(t, "empty and down", l, nil, api.ErrArg)
	wantAppend(t, "long and down", l, long, api.ErrLong)
	wantAppend(t, "too long for the room, and down", l, make([]byte, 467), api.ErrFull)
	// None of these was written, so the log isn't over till this one.
	wantAppend(t, "down", l, []byte("x"), api.ErrLost)
	for _, u := range [][]byte{nil, {1}, long, make([]byte, 467)} {
		wantAppend(t, "over", l, u, api.ErrLost)
	}
}

func TestBytesOfUnits(t *testing.T) {
	d := disk.New(api.MostBlocks)
	l := mustOpen(t, d, 0, api.MostBlocks, 1)
	for b := range 256 {
		for _, size := range []int{1, 233, 234, 466, 470} {
			mustAppend(t, l, bytes.Repeat([]byte{byte(b)}, size))
		}
	}
	wantOpened(t, "one byte again and again", d, 0, api.MostBlocks, 1, l.Units())
	if got := l.Units(); len(got) != 256*5 || !bytes.Equal(got[5*7+3], bytes.Repeat([]byte{7}, 466)) {
		t.Error("other units")
	}
}

func TestSpareRoomIsNoPartOfTheUnit(t *testing.T) {
	d := disk.New(4)
	l := mustOpen(t, d, 0, 4, 1)
	room := unitOf(4, 900)
	mustAppend(t, l, room[:300])
	wantOpened(t, "spare room", d, 0, 4, 1, [][]byte{unitOf(4, 300)})
}

func TestSameAgainIsAUnitToo(t *testing.T) {
	d := disk.New(9)
	l := mustOpen(t, d, 0, 9, 1)
	mustAppend(t, l, texts("same", "same", "same")...)
	mustAppend(t, l, unitOf(1, 300), unitOf(1, 300))
	want := append(texts("same", "same", "same"), unitOf(1, 300), unitOf(1, 300))
	wantLog(t, "the same", l, 9, want)
	wantOpened(t, "the same", d, 0, 9, 1, want)
}

func TestUnitsThatAreBlocksOfTheDisk(t *testing.T) {
	d := disk.New(30)
	l := mustOpen(t, d, 0, 30, 1)
	mustAppend(t, l, []byte("first"))
	for i := range 8 {
		b, e := d.Read(i)
		if e != api.OK {
			t.Fatal(e)
		}
		mustAppend(t, l, b)
		mustAppend(t, l, b[:233])
	}
	wantOpened(t, "blocks as units", d, 0, 30, 1, l.Units())
}

func TestALogOfAWholeDisk(t *testing.T) {
	d := disk.New(api.MostBlocks)
	l := mustOpen(t, d, 0, api.MostBlocks, 1)
	for n := range api.MostBlocks {
		mustAppend(t, l, []byte{byte(n), byte(n >> 8)})
	}
	if l.Room() != 0 {
		t.Errorf("room %d", l.Room())
	}
	wantAppend(t, "full", l, []byte("x"), api.ErrFull)
	wantOpened(t, "opened", d, 0, api.MostBlocks, 1, l.Units())
}

func TestAppendWritesWithinItsArea(t *testing.T) {
	d := disk.New(12)
	for i := range 12 {
		if e := d.Write(i, blockOf(i)); e != api.OK {
			t.Fatal(e)
		}
	}
	l := mustOpen(t, d, 3, 6, 1)
	mustAppend(t, l, unitOf(1, 500), unitOf(2, 100), unitOf(3, 400))
	mustReset(t, l, 2)
	mustAppend(t, l, unitOf(4, 6*233))
	for n := 12; n < d.Writes(); n++ {
		if i := d.Written(n); i < 3 || i > 8 {
			t.Errorf("Append wrote the block %d", i)
		}
	}
	for _, i := range []int{0, 1, 2, 9, 10, 11} {
		if b, e := d.Read(i); e != api.OK || !bytes.Equal(b, blockOf(i)) {
			t.Errorf("block %d: %x, %v", i, b, e)
		}
	}
}

// Units of the same epoch in areas side by side are each in their own log.
func TestAreasSideBySide(t *testing.T) {
	d := disk.New(10)
	a, b := mustOpen(t, d, 0, 4, 1), mustOpen(t, d, 4, 6, 1)
	mustAppend(t, b, unitOf(1, 700), []byte("b"))
	mustAppend(t, a, []byte("a"), unitOf(2, 3*233))
	wantOpened(t, "the first", d, 0, 4, 1, [][]byte{[]byte("a"), unitOf(2, 3*233)})
	wantOpened(t, "the second", d, 4, 6, 1, [][]byte{unitOf(1, 700), []byte("b")})
	// A unit that was lost reaches up to the other's first block, but not beyond it.
	mustReset(t, a, 2)
	lose(t, d, a, unitOf(3, 4*233), 3)
	wantOpened(t, "the first", d, 0, 4, 2, nil)
	again := mustOpen(t, d, 0, 4, 2)
	mustAppend(t, again, []byte("c"))
	wantOpened(t, "the first", d, 0, 4, 2, texts("c"))
	wantOpened(t, "the second", d, 4, 6, 1, [][]byte{unitOf(1, 700), []byte("b")})
}

// A log whose area begins elsewhere is another log, though its blocks lie in the first one's area.
func TestAnAreaThatBeginsElsewhereIsAnotherLog(t *testing.T) {
	d := disk.New(8)
	l := mustOpen(t, d, 2, 6, 1)
	mustAppend(t, l, texts("a", "b", "c")...)
	for from := range 8 {
		want := [][]byte(nil)
		if from == 2 {
			want = texts("a", "b", "c")
		}
		wantOpened(t, "another area", d, from, 8-from, 1, want)
	}
}

// A unit that reaches beyond the area's end is none of that area's.
func TestAnAreaThatEndsEarlier(t *testing.T) {
	d := disk.New(10)
	l := mustOpen(t, d, 1, 9, 1)
	units := [][]byte{[]byte("a"), unitOf(1, 3*233), unitOf(2, 2*233)}
	mustAppend(t, l, units...)
	for count, whole := range []int{1: 1, 2: 1, 3: 1, 4: 2, 5: 2, 6: 3, 7: 3} {
		if count > 0 {
			wantOpened(t, "an earlier end", d, 1, count, 1, units[:whole])
		}
	}
}

// A record in the disk's first blocks is no unit, also if its bytes could be those of one.
func TestASuperRecordIsNoUnit(t *testing.T) {
	d := disk.New(4)
	s, e := super.Open(d)
	if e != api.OK {
		t.Fatal(e)
	}
	for range 2 {
		if e := s.Save(bytes.Repeat([]byte{1}, 20)); e != api.OK {
			t.Fatal(e)
		}
	}
	for generation := range uint64(3) {
		wantOpened(t, "a record", d, 0, 4, generation<<56|20<<48|0x010101010101, nil)
	}
}

func TestAppendThatIsLost(t *testing.T) {
	unit := unitOf(9, 900)
	for done := range takes(unit) {
		d := disk.New(12)
		l := mustOpen(t, d, 1, 10, 3)
		mustAppend(t, l, unitOf(1, 300), []byte("kept"))
		want := [][]byte{unitOf(1, 300), []byte("kept")}
		d.SetFuse(done)
		wantAppend(t, "the fuse ends", l, unit, api.ErrLost)
		wantLog(t, "lost", l, 10, want)
		d.Restart()
		// It is over, also when the disk is up: nothing is written, and nothing else is asked.
		d.SetFuse(0)
		for _, u := range [][]byte{nil, unit, []byte("x"), make([]byte, 60001), make([]byte, 5000)} {
			wantAppend(t, "over", l, u, api.ErrLost)
		}
		for _, epoch := range []uint64{0, 3, 4, math.MaxUint64} {
			wantReset(t, "over", l, epoch, api.ErrLost)
		}
		wantLog(t, "over", l, 10, want)
		if d.Down() {
			t.Error("a log that is over was written to")
		}
		wantWrites(t, "over", d, 3+done)
		d.Restart()
		next := mustOpen(t, d, 1, 10, 3)
		wantLog(t, "opened anew", next, 10, want)
		mustAppend(t, next, []byte("next"))
		want = append(want, []byte("next"))
		wantLog(t, "opened anew", next, 10, want)
		wantOpened(t, "opened anew", d, 1, 10, 3, want)
		wantAppend(t, "the old one", l, []byte("x"), api.ErrLost)
		wantLog(t, "the old one", l, 10, want[:2])
	}
}

// Only an Append that was lost ends a log: one that wrote nothing meanwhile goes on.
func TestAppendToADiskThatWasDownMeanwhile(t *testing.T) {
	d := disk.New(6)
	l := mustOpen(t, d, 1, 5, 1)
	mustAppend(t, l, []byte("first"))
	takeDown(t, d)
	wantLog(t, "down", l, 5, texts("first"))
	d.Restart()
	mustAppend(t, l, []byte("second"))
	wantOpened(t, "restarted", d, 1, 5, 1, texts("first", "second"))
}

// P7.3: Reset.

func TestResetOfEpochs(t *testing.T) {
	epochs := []uint64{0, 1, 2, 255, 256, 257, 1<<32 - 1, 1 << 32, 1<<63 - 1, 1 << 63, math.MaxUint64 - 1, math.MaxUint64}
	for _, old := range epochs {
		for _, epoch := range epochs {
			d := disk.New(4)
			l := mustOpen(t, d, 0, 4, old)
			mustAppend(t, l, unitOf(1, 300), []byte("b"))
			d.SetFuse(0)
			if epoch <= old {
				wantReset(t, "not above", l, epoch, api.ErrRange)
				wantLog(t, "not above", l, 4, [][]byte{unitOf(1, 300), []byte("b")})
			} else {
				wantReset(t, "above", l, epoch, api.OK)
				wantLog(t, "above", l, 4, nil)
				wantOpened(t, "above", d, 0, 4, epoch, nil)
			}
			wantOpened(t, "the old epoch", d, 0, 4, old, [][]byte{unitOf(1, 300), []byte("b")})
			wantWrites(t, "Reset", d, 3)
			if d.Down() {
				t.Error("Reset has written")
			}
		}
	}
}

func TestUnitsBehindAReset(t *testing.T) {
	d := disk.New(5)
	l := mustOpen(t, d, 0, 5, 1)
	mustAppend(t, l, texts("a", "b", "c", "d", "e")...)
	wantAppend(t, "full", l, []byte("f"), api.ErrFull)
	for epoch := uint64(2); epoch < 9; epoch++ {
		mustReset(t, l, epoch)
		wantReset(t, "the same again", l, epoch, api.ErrRange)
		var want [][]byte
		for n := range 5 {
			wantOpened(t, "Reset", d, 0, 5, epoch, want)
			u := unitOf(int(epoch)+n, 1+n)
			mustAppend(t, l, u)
			want = append(want, u)
			wantLog(t, "Reset", l, 5, want)
		}
		wantOpened(t, "Reset", d, 0, 5, epoch, want)
		wantOpened(t, "the epoch ahead of it", d, 0, 5, epoch-1, nil)
	}
}

func TestResetOfADiskThatIsDown(t *testing.T) {
	d := disk.New(3)
	l := mustOpen(t, d, 0, 3, 1)
	mustAppend(t, l, []byte("a"))
	takeDown(t, d)
	wantReset(t, "down", l, 1, api.ErrRange)
	mustReset(t, l, 2)
	wantLog(t, "down", l, 3, nil)
	d.Restart()
	mustAppend(t, l, []byte("b"))
	wantOpened(t, "restarted", d, 0, 3, 2, texts("b"))
}

// R1: nil, and the zero Log, which has no blocks.

func TestNilLog(t *testing.T) {
	var l *log.Log
	for range 2 {
		wantLog(t, "nil", l, 0, nil)
		for _, size := range []int{0, 1, 60000, 60001} {
			wantAppend(t, "nil", l, make([]byte, size), api.ErrArg)
		}
		for _, epoch := range []uint64{0, 1, math.MaxUint64} {
			wantReset(t, "nil", l, epoch, api.ErrArg)
		}
	}
}

func TestZeroLog(t *testing.T) {
	l := &log.Log{}
	wantLog(t, "zero", l, 0, nil)
	wantAppend(t, "zero", l, nil, api.ErrArg)
	wantAppend(t, "zero", l, make([]byte, 60001), api.ErrLong)
	wantAppend(t, "zero", l, []byte("x"), api.ErrFull)
	wantReset(t, "zero", l, 0, api.ErrRange)
	wantReset(t, "zero", l, 1, api.OK)
	wantReset(t, "zero", l, 1, api.ErrRange)
	wantLog(t, "zero", l, 0, nil)
}

// R2: the object's history alone.

func TestEachLogIsForItself(t *testing.T) {
	first, second := disk.New(4), disk.New(4)
	a, b := mustOpen(t, first, 0, 4, 1), mustOpen(t, second, 0, 4, 1)
	mustAppend(t, a, []byte("a"))
	lose(t, first, a, []byte("lost"), 0)
	wantLog(t, "the other", b, 4, nil)
	mustAppend(t, b, []byte("b"))
	wantOpened(t, "the other", second, 0, 4, 1, texts("b"))
}

func TestSameCallsLayTheSameBlocks(t *testing.T) {
	var blocks [2][]byte
	for n := range blocks {
		d := disk.New(6)
		l := mustOpen(t, d, 1, 5, 1)
		mustAppend(t, l, unitOf(1, 250), []byte("a"))
		mustReset(t, l, 5)
		mustAppend(t, l, []byte("b"))
		for i := range 6 {
			b, e := d.Read(i)
			if e != api.OK {
				t.Fatal(e)
			}
			blocks[n] = append(blocks[n], b...)
		}
	}
	if !bytes.Equal(blocks[0], blocks[1]) {
		t.Error("the same calls have laid other blocks")
	}
}

// R3: memory.

// fill overwrites a list and its spare room.
func fill(list []byte) {
	list = list[:cap(list)]
	for i := range list {
		list[i] = 0xee
	}
}

// fillAll overwrites units, their spare room, and that of their list.
func fillAll(units [][]byte) {
	for _, u := range units {
		fill(u)
	}
	units = units[:cap(units)]
	for i := range units {
		units[i] = []byte("overwritten")
	}
}

func TestAppendedUnitStaysAsItIsAndIsNotKept(t *testing.T) {
	for _, size := range []int{1, 60, 233, 234, 500} {
		d := disk.New(4)
		l := mustOpen(t, d, 0, 4, 1)
		room := unitOf(1, size+100)
		before := slices.Clone(room)
		mustAppend(t, l, room[:size])
		if !bytes.Equal(room, before) {
			t.Errorf("the unit or its spare room was changed: %x", room)
		}
		fill(room)
		wantLog(t, "overwritten", l, 4, [][]byte{before[:size]})
		wantOpened(t, "overwritten", d, 0, 4, 1, [][]byte{before[:size]})
	}
}

func TestUnitsAreNewMemory(t *testing.T) {
	d := disk.New(9)
	want := [][]byte{unitOf(1, 300), []byte("a"), []byte("b")}
	appended := mustOpen(t, d, 0, 9, 1)
	mustAppend(t, appended, want...)
	for _, l := range []*log.Log{appended, mustOpen(t, d, 0, 9, 1)} {
		first, second := l.Units(), l.Units()
		fillAll(first)
		if !sameUnits(second, want) {
			t.Error("two answers share memory")
		}
		wantLog(t, "overwritten", l, 9, want)
		fill(second[0])
		if !sameUnits(second[1:], want[1:]) {
			t.Error("two units of one answer share memory")
		}
	}
	old := appended.Units()
	mustAppend(t, appended, []byte("c"))
	mustReset(t, appended, 2)
	mustAppend(t, appended, []byte("d"))
	if !sameUnits(old, want) {
		t.Error("an answer was changed by later calls")
	}
	wantOpened(t, "overwritten", d, 0, 9, 2, texts("d"))
}
