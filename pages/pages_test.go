package pages_test

import (
	"bytes"
	"math"
	"slices"
	"testing"

	"reeve/api"
	"reeve/disk"
	"reeve/log"
	"reeve/pages"
	"reeve/super"
)

// textOf makes a text of that many bytes, which differ from those of other starts.
func textOf(start, size int) []byte {
	b := make([]byte, size)
	for i := range b {
		b[i] = byte(start*31 + i*7 + i/256)
	}
	return b
}

// blockOf is a block that nobody sealed.
func blockOf(start int) []byte { return textOf(start, api.BlockSize) }

// takes tells how many blocks a text takes, as the chapter tells it.
func takes(text []byte) int { return max((len(text)+237)/238, 1) }

// rising makes the list of the numbers from low to high - 1.
func rising(low, high int) []int {
	var list []int
	for i := low; i < high; i++ {
		list = append(list, i)
	}
	return list
}

// without is the list but for the numbers of the other one.
func without(list, other []int) []int {
	return slices.DeleteFunc(slices.Clone(list), func(i int) bool { return slices.Contains(other, i) })
}

// mustOpen opens pages that nothing stands against.
func mustOpen(t *testing.T, d *disk.Disk, from, count int, names ...int) *pages.Pages {
	t.Helper()
	p, e := pages.Open(d, from, count, names)
	if e != api.OK || p == nil {
		t.Fatalf("Open(%d, %d, %v): %v, %v", from, count, names, p, e)
	}
	return p
}

// mustPut does a Put that nothing stands against.
func mustPut(t *testing.T, p *pages.Pages, text []byte) int {
	t.Helper()
	name, e := p.Put(text)
	if e != api.OK {
		t.Fatalf("Put(%d bytes): %v", len(text), e)
	}
	return name
}

// mustDrop does Drops that nothing stands against.
func mustDrop(t *testing.T, p *pages.Pages, names ...int) {
	t.Helper()
	for _, name := range names {
		if e := p.Drop(name); e != api.OK {
			t.Fatalf("Drop(%d): %v", name, e)
		}
	}
}

// wantText holds a text of pages, and its blocks, against what it should be.
func wantText(t *testing.T, what string, p *pages.Pages, name int, text []byte) {
	t.Helper()
	if got, e := p.Get(name); e != api.OK || !bytes.Equal(got, text) {
		t.Errorf("%s: Get(%d): %d bytes, %v; not %d, or others", what, name, len(got), e, len(text))
	}
	if got := p.Blocks(name); len(got) != takes(text) || got[0] != name {
		t.Errorf("%s: Blocks(%d) of %d bytes: %v", what, name, len(text), got)
	}
}

// wantPages holds pages of an area against the texts that they should have:
// each block of the area is one text's, or free, and none is told twice.
func wantPages(t *testing.T, what string, p *pages.Pages, from, count int, texts map[int][]byte) {
	t.Helper()
	var names, used []int
	for name, text := range texts {
		names = append(names, name)
		used = append(used, p.Blocks(name)...)
		wantText(t, what, p, name, text)
	}
	slices.Sort(names)
	if got := p.Names(); !slices.Equal(got, names) {
		t.Errorf("%s: names %v; not %v", what, got, names)
	}
	free := p.Free()
	if !slices.IsSorted(free) {
		t.Errorf("%s: free %v", what, free)
	}
	all := slices.Sorted(slices.Values(slices.Concat(used, free)))
	if !slices.Equal(all, rising(from, from+count)) {
		t.Errorf("%s: used %v, free %v; not each of %d blocks from %d on once", what, used, free, count, from)
	}
}

// wantOpened holds the pages that Open answers against what they should be.
func wantOpened(t *testing.T, what string, d *disk.Disk, from, count int, texts map[int][]byte) {
	t.Helper()
	var names []int
	for name := range texts {
		names = append(names, name)
	}
	wantPages(t, what, mustOpen(t, d, from, count, names...), from, count, texts)
}

// wantNoOpen asks for an Open that is refused.
func wantNoOpen(t *testing.T, what string, d *disk.Disk, from, count int, names []int, want api.Errno) {
	t.Helper()
	if p, e := pages.Open(d, from, count, names); p != nil || e != want {
		t.Errorf("%s: Open(%d, %d, %v): %v, %v; not nil, %v", what, from, count, names, p, e, want)
	}
}

// wantNoPut asks for a Put that is refused, and leaves the pages as they are.
func wantNoPut(t *testing.T, what string, p *pages.Pages, text []byte, want api.Errno) {
	t.Helper()
	free, names := p.Free(), p.Names()
	if name, e := p.Put(text); name != 0 || e != want {
		t.Errorf("%s: Put(%d bytes): %d, %v; not 0, %v", what, len(text), name, e, want)
	}
	if !slices.Equal(p.Free(), free) || !slices.Equal(p.Names(), names) {
		t.Errorf("%s: a refused Put has changed the pages", what)
	}
}

// wantNoText asks for a text that isn't there.
func wantNoText(t *testing.T, what string, p *pages.Pages, name int) {
	t.Helper()
	if text, e := p.Get(name); len(text) != 0 || e != api.ErrNone {
		t.Errorf("%s: Get(%d): %d bytes, %v", what, name, len(text), e)
	}
	if blocks := p.Blocks(name); len(blocks) != 0 {
		t.Errorf("%s: Blocks(%d): %v", what, name, blocks)
	}
	if e := p.Drop(name); e != api.ErrNone {
		t.Errorf("%s: Drop(%d): %v", what, name, e)
	}
}

// wantWrites holds how many writes a disk has done against what it should be.
func wantWrites(t *testing.T, what string, d *disk.Disk, want int) {
	t.Helper()
	if d.Writes() != want {
		t.Errorf("%s: %d writes; not %d", what, d.Writes(), want)
	}
}

// takeDown makes a disk be down by a write that another than pages does.
func takeDown(t *testing.T, d *disk.Disk) {
	t.Helper()
	d.SetFuse(0)
	if e := d.Write(0, blockOf(1)); e != api.ErrLost || !d.Down() {
		t.Fatalf("the disk isn't down: %v", e)
	}
}

// lose has the disk's power fail behind that many of a text's blocks, and restarts it.
func lose(t *testing.T, d *disk.Disk, p *pages.Pages, text []byte, done int) {
	t.Helper()
	before := d.Writes()
	d.SetFuse(done)
	wantNoPut(t, "the fuse ends", p, text, api.ErrLost)
	if !d.Down() {
		t.Fatal("the disk isn't down")
	}
	wantWrites(t, "the fuse ends", d, before+done)
	d.Restart()
}

// The chapter's examples.

func TestExamples(t *testing.T) {
	p := mustOpen(t, disk.New(5), 1, 4)
	name := mustPut(t, p, make([]byte, 239))
	blocks := p.Blocks(name)
	if len(blocks) != 2 || len(p.Free()) != 2 {
		t.Errorf("Put of 239 bytes: %v", blocks)
	}
	mustDrop(t, p, name)
	if free := p.Free(); !slices.Equal(free, rising(1, 5)) {
		t.Errorf("Drop: free %v", free)
	}
}

// P8.1: Open.

func TestOpenOfNoDisk(t *testing.T) {
	for _, area := range [][2]int{{0, 0}, {0, 1}, {1, 1}, {0, -1}, {-1, 1}} {
		for _, names := range [][]int{nil, {0}, {1, 1}} {
			wantNoOpen(t, "nil", nil, area[0], area[1], names, api.ErrArg)
			wantNoOpen(t, "the zero disk", &disk.Disk{}, area[0], area[1], names, api.ErrArg)
			wantNoOpen(t, "no blocks", disk.New(0), area[0], area[1], names, api.ErrArg)
		}
	}
}

func TestOpenOfEveryAreaOfASmallDisk(t *testing.T) {
	d := disk.New(5)
	for from := -3; from < 9; from++ {
		for count := -3; count < 9; count++ {
			if from >= 0 && count >= 1 && from+count <= 5 {
				wantOpened(t, "an area", d, from, count, nil)
			} else {
				wantNoOpen(t, "no area", d, from, count, nil, api.ErrArg)
			}
		}
	}
	wantWrites(t, "opened", d, 0)
}

// The ends of such areas wrap round.
func TestOpenOfAreasFarOff(t *testing.T) {
	d := disk.New(5)
	far := []int{math.MaxInt, math.MaxInt - 1, math.MinInt, math.MinInt + 1, math.MinInt + 5, 1 << 32, 1 << 16, -1 << 32}
	near := []int{-1, 0, 1, 4, 5}
	for _, a := range far {
		for _, b := range slices.Concat(far, near) {
			wantNoOpen(t, "far off", d, a, b, nil, api.ErrArg)
			wantNoOpen(t, "far off", d, b, a, nil, api.ErrArg)
		}
	}
}

func TestOpenErrorsInTheirOrder(t *testing.T) {
	d := disk.New(8)
	p := mustOpen(t, d, 1, 6)
	a, b := mustPut(t, p, []byte("a")), mustPut(t, p, textOf(1, 300))
	none := p.Free()[0]
	wrong := [][]int{{none}, {a, a}, {a, none, b}, {-1, a}, {a, 7}, {99, b, b}}
	for _, names := range wrong {
		wantNoOpen(t, "no area, no names", d, 1, 8, names, api.ErrArg)
		wantNoOpen(t, "no names", d, 1, 6, names, api.ErrForm)
	}
	takeDown(t, d)
	for _, names := range append(wrong, []int{a}, []int{b, a}) {
		wantNoOpen(t, "down, no area", d, 0, 9, names, api.ErrArg)
		wantNoOpen(t, "down, no area", d, 1, 0, names, api.ErrArg)
		wantNoOpen(t, "down", d, 1, 6, names, api.ErrLost)
	}
	d.Restart()
	wantOpened(t, "restarted", d, 1, 6, map[int][]byte{a: []byte("a"), b: textOf(1, 300)})
}

// Where no block is asked for, none is read, and so no read is lost.
func TestOpenThatReadsNothing(t *testing.T) {
	d := disk.New(5)
	mustPut(t, mustOpen(t, d, 1, 4), []byte("a"))
	takeDown(t, d)
	p := mustOpen(t, d, 1, 4)
	wantPages(t, "down", p, 1, 4, nil)
	for _, names := range [][]int{{0}, {-1}, {5}, {math.MaxInt, math.MinInt}} {
		wantNoOpen(t, "down", d, 1, 4, names, api.ErrForm)
	}
	wantNoPut(t, "down", p, nil, api.ErrLost)
	d.Restart()
	wantText(t, "restarted", p, mustPut(t, p, []byte("b")), []byte("b"))
}

func TestNamesOfNoTexts(t *testing.T) {
	d := disk.New(10)
	if e := d.Write(8, blockOf(5)); e != api.OK {
		t.Fatal(e)
	}
	p := mustOpen(t, d, 2, 7)
	a := mustPut(t, p, textOf(1, 700))
	for name := -3; name < 15; name++ {
		if name == a {
			wantOpened(t, "the text", d, 2, 7, map[int][]byte{a: textOf(1, 700)})
			continue
		}
		for _, names := range [][]int{{name}, {a, name}, {name, a}} {
			wantNoOpen(t, "no text", d, 2, 7, names, api.ErrForm)
		}
	}
	// Names whose lowest bits are those of a text's.
	for _, shift := range []int{1 << 8, 1 << 16, 1 << 32, 1 << 48, math.MinInt, -1 << 16} {
		wantNoOpen(t, "far off", d, 2, 7, []int{a + shift}, api.ErrForm)
		wantNoOpen(t, "far off", d, 2, 7, []int{a, a + shift}, api.ErrForm)
	}
	for _, far := range []int{math.MaxInt, math.MinInt} {
		wantNoOpen(t, "far off", d, 2, 7, []int{far}, api.ErrForm)
	}
	wantWrites(t, "opened", d, 4)
}

func TestSameNameTwice(t *testing.T) {
	d := disk.New(12)
	p := mustOpen(t, d, 0, 12)
	a, b := mustPut(t, p, []byte("a")), mustPut(t, p, textOf(1, 700))
	for _, names := range [][]int{{a, a}, {b, b}, {a, b, a}, {b, a, b}, {a, a, b}, {b, b, b}} {
		wantNoOpen(t, "twice", d, 0, 12, names, api.ErrForm)
	}
	many := slices.Repeat([]int{b}, 1<<20)
	wantNoOpen(t, "very often", d, 0, 12, many, api.ErrForm)
}

// Two names, one of which is a block of the other's text.
func TestNamesThatUseOneBlock(t *testing.T) {
	d := disk.New(12)
	p := mustOpen(t, d, 0, 12)
	a := mustPut(t, p, textOf(1, 900))
	for _, i := range p.Blocks(a)[1:] {
		for _, names := range [][]int{{i}, {a, i}, {i, a}} {
			wantNoOpen(t, "a block in the midst", d, 0, 12, names, api.ErrForm)
		}
	}
	// A text over what was dropped: the one that is written over is none any more.
	mustDrop(t, p, a)
	q := mustOpen(t, d, 0, 12)
	b := mustPut(t, q, textOf(2, 300))
	wantOpened(t, "written over", d, 0, 12, map[int][]byte{b: textOf(2, 300)})
	if a != b {
		wantNoOpen(t, "written over", d, 0, 12, []int{a}, api.ErrForm)
		wantNoOpen(t, "written over", d, 0, 12, []int{a, b}, api.ErrForm)
	}
}

func TestOpenOfSomeOfTheTexts(t *testing.T) {
	d := disk.New(40)
	p := mustOpen(t, d, 3, 35)
	var names []int
	all := map[int][]byte{}
	for n := range 6 {
		text := textOf(n, n*n*40)
		name := mustPut(t, p, text)
		names = append(names, name)
		all[name] = text
	}
	wantPages(t, "put", p, 3, 35, all)
	for set := range 1 << len(names) {
		some := map[int][]byte{}
		var order []int
		for i, name := range names {
			if set>>i&1 == 1 {
				some[name] = all[name]
				order = append(order, name)
			}
		}
		wantPages(t, "some", mustOpen(t, d, 3, 35, order...), 3, 35, some)
		slices.Reverse(order)
		wantPages(t, "some, falling", mustOpen(t, d, 3, 35, order...), 3, 35, some)
	}
}

func TestOpenWritesNothing(t *testing.T) {
	d := disk.New(30)
	p := mustOpen(t, d, 1, 29)
	texts := map[int][]byte{}
	for n := range 6 {
		before := d.Writes()
		d.SetFuse(0)
		for range 3 {
			wantOpened(t, "fused", d, 1, 29, texts)
			wantOpened(t, "fused, without names", d, 1, 29, nil)
			wantNoOpen(t, "fused, no text", d, 1, 29, []int{29}, api.ErrForm)
		}
		if d.Down() {
			t.Fatal("Open has taken the disk down")
		}
		wantWrites(t, "behind Open", d, before)
		d.Restart()
		text := textOf(n, n*200)
		texts[mustPut(t, p, text)] = text
	}
}

// Blocks that others have written are no texts.
func TestBlocksOfOthers(t *testing.T) {
	d := disk.New(8)
	s, e := super.Open(d)
	if e != api.OK {
		t.Fatal(e)
	}
	for n := range 2 {
		if e := s.Save(textOf(n, 100)); e != api.OK {
			t.Fatal(e)
		}
	}
	l, e := log.Open(d, 2, 2, 1)
	if e != api.OK {
		t.Fatal(e)
	}
	if e := l.Append(textOf(3, 300)); e != api.OK {
		t.Fatal(e)
	}
	for i := 4; i < 6; i++ {
		if e := d.Write(i, blockOf(i)); e != api.OK {
			t.Fatal(e)
		}
	}
	for i := range 8 {
		wantNoOpen(t, "another's block", d, 0, 8, []int{i}, api.ErrForm)
	}
	p := mustOpen(t, d, 4, 4)
	a := mustPut(t, p, textOf(7, 900))
	wantOpened(t, "over blocks of others", d, 4, 4, map[int][]byte{a: textOf(7, 900)})
	if !bytes.Equal(s.Payload(), textOf(1, 100)) || !bytes.Equal(l.Units()[0], textOf(3, 300)) {
		t.Error("the others' blocks were changed")
	}
}

// A log's unit is no text, also if its epoch's bytes could be a text's.
func TestALogsUnitIsNoText(t *testing.T) {
	for size := 1; size <= 233; size++ {
		d := disk.New(3)
		l, e := log.Open(d, 0, 3, uint64(size+5)<<48)
		if e != api.OK {
			t.Fatal(e)
		}
		for range 3 {
			if e := l.Append(make([]byte, size)); e != api.OK {
				t.Fatal(e)
			}
		}
		for i := range 3 {
			wantNoOpen(t, "a unit", d, 0, 3, []int{i}, api.ErrForm)
		}
	}
}

// A text's block that was laid elsewhere, or back over a later one, makes no text there.
func TestABlockThatWasMoved(t *testing.T) {
	for _, size := range []int{0, 100, 238} {
		d := disk.New(6)
		a := mustPut(t, mustOpen(t, d, 1, 5), textOf(1, size))
		block, e := d.Read(a)
		if e != api.OK {
			t.Fatal(e)
		}
		for i := range 6 {
			if e := d.Write(i, block); e != api.OK {
				t.Fatal(e)
			}
		}
		for i := 1; i < 6; i++ {
			if i != a {
				wantNoOpen(t, "moved", d, 1, 5, []int{i}, api.ErrForm)
			}
		}
		wantOpened(t, "where it was", d, 1, 5, map[int][]byte{a: textOf(1, size)})
	}
}

func TestABlockOfWhichOneByteIsAnother(t *testing.T) {
	text := textOf(1, 600)
	d := disk.New(5)
	p := mustOpen(t, d, 1, 4)
	a := mustPut(t, p, text)
	for _, i := range p.Blocks(a) {
		right, e := d.Read(i)
		if e != api.OK {
			t.Fatal(e)
		}
		for at := 0; at < api.BlockSize; at += 5 {
			wrong := slices.Clone(right)
			wrong[at] ^= 1 << (at % 8)
			if e := d.Write(i, wrong); e != api.OK {
				t.Fatal(e)
			}
			wantNoOpen(t, "a byte is another", d, 1, 4, []int{a}, api.ErrForm)
			if got, e := p.Get(a); len(got) != 0 || e != api.ErrNone {
				t.Errorf("a byte is another: Get: %d bytes, %v", len(got), e)
			}
		}
		if e := d.Write(i, right); e != api.OK {
			t.Fatal(e)
		}
		wantOpened(t, "right again", d, 1, 4, map[int][]byte{a: text})
		wantText(t, "right again", p, a, text)
	}
}

// P8.2: Put, Get, Drop.

func TestTextsOfManySizes(t *testing.T) {
	var sizes []int
	for size := range 725 {
		sizes = append(sizes, size)
	}
	sizes = append(sizes, 951, 952, 953, 19991, 19992, 19993, 19999, 20000)
	d := disk.New(500)
	p := mustOpen(t, d, 1, 499)
	texts := map[int][]byte{}
	for _, size := range sizes {
		text := textOf(size, size)
		if len(p.Free()) < takes(text) {
			mustDrop(t, p, p.Names()...)
			clear(texts)
		}
		before, free := d.Writes(), p.Free()
		name := mustPut(t, p, text)
		texts[name] = text
		wantText(t, "put", p, name, text)
		wantWrites(t, "Put", d, before+takes(text))
		blocks := p.Blocks(name)
		if !slices.Equal(p.Free(), without(free, blocks)) || len(p.Free()) != len(free)-takes(text) {
			t.Fatalf("%d bytes in %v: free %v; ahead of it %v", size, blocks, p.Free(), free)
		}
		wantText(t, "opened", mustOpen(t, d, 1, 499, name), name, text)
		if size%50 == 0 || size > 710 {
			wantPages(t, "put", p, 1, 499, texts)
			wantOpened(t, "opened", d, 1, 499, texts)
		}
	}
}

func TestHowManyBlocksATextTakes(t *testing.T) {
	for size, want := range map[int]int{0: 1, 1: 1, 237: 1, 238: 1, 239: 2, 476: 2, 477: 3, 714: 3, 715: 4, 19992: 84, 19993: 85, 20000: 85} {
		d := disk.New(100)
		p := mustOpen(t, d, 5, 90)
		name := mustPut(t, p, textOf(size, size))
		if len(p.Blocks(name)) != want || len(p.Free()) != 90-want || d.Writes() != want {
			t.Errorf("%d bytes: blocks %v, %d free, %d writes; not %d blocks", size, p.Blocks(name), len(p.Free()), d.Writes(), want)
		}
	}
}

func TestPutOfNothing(t *testing.T) {
	d := disk.New(4)
	p := mustOpen(t, d, 1, 3)
	texts := map[int][]byte{}
	for _, nothing := range [][]byte{nil, {}, make([]byte, 0, 9)} {
		texts[mustPut(t, p, nothing)] = nil
	}
	wantPages(t, "nothing", p, 1, 3, texts)
	wantOpened(t, "nothing", d, 1, 3, texts)
	wantNoPut(t, "full", p, nil, api.ErrFull)
}

// Lengths whose lowest bytes are small ones are long all the same.
func TestPutOfLongOnes(t *testing.T) {
	d := disk.New(400)
	p := mustOpen(t, d, 1, 399)
	a := mustPut(t, p, []byte("kept"))
	d.SetFuse(0)
	for _, size := range []int{20001, 20002, 32767, 32768, 65535, 65536, 65537, 1 << 17, 1<<24 + 1} {
		wantNoPut(t, "a long one", p, make([]byte, size), api.ErrLong)
	}
	wantWrites(t, "long ones", d, 1)
	if d.Down() {
		t.Fatal("a long text was written")
	}
	d.Restart()
	longest := textOf(5, 20000)
	b := mustPut(t, p, longest)
	wantOpened(t, "the longest", d, 1, 399, map[int][]byte{a: []byte("kept"), b: longest})
}

func TestPutWithoutRoom(t *testing.T) {
	for count := 1; count <= 5; count++ {
		d := disk.New(8)
		p := mustOpen(t, d, 2, count)
		texts := map[int][]byte{}
		for left := count; left >= 0; left-- {
			d.SetFuse(0)
			if left > 0 {
				wantNoPut(t, "a byte more than fits", p, textOf(1, left*238+1), api.ErrFull)
			} else {
				wantNoPut(t, "nothing fits", p, nil, api.ErrFull)
				wantNoPut(t, "nothing fits", p, []byte("x"), api.ErrFull)
			}
			wantPages(t, "full", p, 2, count, texts)
			wantWrites(t, "full", d, count-left)
			if d.Down() {
				t.Fatal("full pages were written to")
			}
			d.Restart()
			if left > 0 {
				text := textOf(left, 238)
				texts[mustPut(t, p, text)] = text
			}
		}
		wantOpened(t, "full", d, 2, count, texts)
		again := mustOpen(t, d, 2, count, p.Names()...)
		wantNoPut(t, "opened while full", again, nil, api.ErrFull)
	}
}

func TestTextsThatJustFillTheArea(t *testing.T) {
	for count := 1; count <= 5; count++ {
		d := disk.New(8)
		p := mustOpen(t, d, 1, count)
		for n := range 3 {
			text := textOf(count+n, count*238)
			name := mustPut(t, p, text)
			wantPages(t, "just fills", p, 1, count, map[int][]byte{name: text})
			wantOpened(t, "just fills", d, 1, count, map[int][]byte{name: text})
			wantNoPut(t, "beside it", p, nil, api.ErrFull)
			mustDrop(t, p, name)
		}
	}
	text := textOf(1, 20000)
	d := disk.New(85)
	a := mustPut(t, mustOpen(t, d, 0, 85), text)
	wantOpened(t, "the longest just fills", d, 0, 85, map[int][]byte{a: text})
	p := mustOpen(t, disk.New(84), 0, 84)
	wantNoPut(t, "the longest doesn't fit", p, text, api.ErrFull)
	wantNoPut(t, "a longer one", p, append(text, 0), api.ErrLong)
}

func TestPutErrorsInTheirOrder(t *testing.T) {
	d := disk.New(3)
	p := mustOpen(t, d, 0, 3)
	a := mustPut(t, p, textOf(1, 300))
	takeDown(t, d)
	wantNoPut(t, "long, full and down", p, make([]byte, 20001), api.ErrLong)
	wantNoPut(t, "full and down", p, make([]byte, 20000), api.ErrFull)
	wantNoPut(t, "full and down", p, make([]byte, 239), api.ErrFull)
	wantNoPut(t, "down", p, make([]byte, 238), api.ErrLost)
	d.Restart()
	// Nothing was used, and the pages go on.
	b := mustPut(t, p, textOf(2, 238))
	wantPages(t, "restarted", p, 0, 3, map[int][]byte{a: textOf(1, 300), b: textOf(2, 238)})
}

func TestBytesOfTexts(t *testing.T) {
	d := disk.New(10)
	for b := range 256 {
		for _, size := range []int{1, 237, 238, 239, 476, 480} {
			text := bytes.Repeat([]byte{byte(b)}, size)
			a := mustPut(t, mustOpen(t, d, 1, 9), text)
			wantOpened(t, "one byte again and again", d, 1, 9, map[int][]byte{a: text})
		}
	}
}

func TestSpareRoomIsNoPartOfTheText(t *testing.T) {
	d := disk.New(5)
	p := mustOpen(t, d, 1, 4)
	room := textOf(4, 900)
	a := mustPut(t, p, room[:300])
	wantPages(t, "spare room", p, 1, 4, map[int][]byte{a: textOf(4, 300)})
}

func TestSameAgainIsAnotherText(t *testing.T) {
	d := disk.New(9)
	p := mustOpen(t, d, 0, 9)
	texts := map[int][]byte{}
	for range 3 {
		texts[mustPut(t, p, textOf(1, 400))] = textOf(1, 400)
	}
	if len(texts) != 3 {
		t.Fatalf("%d texts", len(texts))
	}
	wantPages(t, "the same", p, 0, 9, texts)
	wantOpened(t, "the same", d, 0, 9, texts)
}

// Texts whose bytes are those of pages' own blocks.
func TestTextsThatAreBlocksOfTheDisk(t *testing.T) {
	d := disk.New(30)
	p := mustOpen(t, d, 0, 30)
	first := textOf(1, 300)
	texts := map[int][]byte{mustPut(t, p, first): first}
	for i := range 6 {
		b, e := d.Read(i)
		if e != api.OK {
			t.Fatal(e)
		}
		texts[mustPut(t, p, b)] = b
		texts[mustPut(t, p, b[:238])] = b[:238]
	}
	wantOpened(t, "blocks as texts", d, 0, 30, texts)
}

func TestPutWritesFreeBlocksAlone(t *testing.T) {
	d := disk.New(16)
	for i := range 16 {
		if e := d.Write(i, blockOf(i)); e != api.OK {
			t.Fatal(e)
		}
	}
	p := mustOpen(t, d, 3, 10)
	texts := map[int][]byte{}
	for n := range 60 {
		text := textOf(n, n*53%700)
		for len(p.Free()) < takes(text) {
			name := p.Names()[n%len(p.Names())]
			mustDrop(t, p, name)
			delete(texts, name)
		}
		before, free := d.Writes(), p.Free()
		name := mustPut(t, p, text)
		texts[name] = text
		var written []int
		for k := before; k < d.Writes(); k++ {
			written = append(written, d.Written(k))
		}
		slices.Sort(written)
		if blocks := slices.Sorted(slices.Values(p.Blocks(name))); !slices.Equal(written, blocks) || len(without(written, free)) != 0 {
			t.Fatalf("wrote %v; the text's %v, free %v", written, blocks, free)
		}
		wantPages(t, "put", p, 3, 10, texts)
	}
	for _, i := range []int{0, 1, 2, 13, 14, 15} {
		if b, e := d.Read(i); e != api.OK || !bytes.Equal(b, blockOf(i)) {
			t.Errorf("block %d: %v", i, e)
		}
	}
}

func TestPagesOfAWholeDisk(t *testing.T) {
	d := disk.New(api.MostBlocks)
	p := mustOpen(t, d, 0, api.MostBlocks)
	for n := range api.MostBlocks {
		if name, e := p.Put([]byte{byte(n), byte(n >> 8)}); e != api.OK || name < 0 || name >= api.MostBlocks {
			t.Fatal(name, e)
		}
	}
	wantNoPut(t, "full", p, nil, api.ErrFull)
	names := p.Names()
	if !slices.Equal(names, rising(0, api.MostBlocks)) {
		t.Fatalf("%d names", len(names))
	}
	again := mustOpen(t, d, 0, api.MostBlocks, names...)
	if len(again.Free()) != 0 || !slices.Equal(again.Names(), names) {
		t.Fatal("other pages")
	}
	// Every second block comes free, and one text goes through the highest of them.
	for _, name := range names {
		if name%2 == 1 && name > api.MostBlocks-200 {
			mustDrop(t, again, name)
		}
	}
	text := textOf(1, 20000)
	a := mustPut(t, again, text)
	wantText(t, "high blocks", again, a, text)
	wantText(t, "high blocks", mustOpen(t, d, 0, api.MostBlocks, a), a, text)
	wantText(t, "high blocks", mustOpen(t, d, api.MostBlocks-200, 200, a), a, text)
}

func TestAreasSideBySide(t *testing.T) {
	d := disk.New(10)
	p, q := mustOpen(t, d, 0, 4), mustOpen(t, d, 4, 6)
	b := mustPut(t, q, textOf(2, 1400))
	a := mustPut(t, p, textOf(1, 900))
	wantOpened(t, "the first", d, 0, 4, map[int][]byte{a: textOf(1, 900)})
	wantOpened(t, "the second", d, 4, 6, map[int][]byte{b: textOf(2, 1400)})
	wantNoOpen(t, "the second's in the first", d, 0, 4, []int{b}, api.ErrForm)
	wantNoOpen(t, "the first's in the second", d, 4, 6, []int{a}, api.ErrForm)
	wantOpened(t, "both", d, 0, 10, map[int][]byte{a: textOf(1, 900), b: textOf(2, 1400)})
}

// A text is there for each area that has all its blocks, and for no other.
func TestAreasThatHaveATextInPart(t *testing.T) {
	d := disk.New(9)
	p := mustOpen(t, d, 0, 9)
	mustPut(t, p, textOf(1, 400))
	a := mustPut(t, p, textOf(2, 700))
	blocks := p.Blocks(a)
	for from := range 9 {
		for count := 1; from+count <= 9; count++ {
			if slices.Min(blocks) >= from && slices.Max(blocks) < from+count {
				wantOpened(t, "all of it", d, from, count, map[int][]byte{a: textOf(2, 700)})
			} else {
				wantNoOpen(t, "a part of it", d, from, count, []int{a}, api.ErrForm)
			}
		}
	}
}

func TestPutThatIsLost(t *testing.T) {
	text := textOf(9, 900)
	for done := range takes(text) {
		d := disk.New(12)
		p := mustOpen(t, d, 1, 10)
		a, b := mustPut(t, p, textOf(1, 300)), mustPut(t, p, []byte("kept"))
		texts := map[int][]byte{a: textOf(1, 300), b: []byte("kept")}
		before := d.Writes()
		lose(t, d, p, text, done)
		for k := before; k < d.Writes(); k++ {
			if i := d.Written(k); !slices.Contains(p.Free(), i) {
				t.Errorf("a lost Put wrote the block %d", i)
			}
		}
		wantPages(t, "lost", p, 1, 10, texts)
		wantOpened(t, "lost", d, 1, 10, texts)
		for _, i := range p.Free() {
			wantNoOpen(t, "nothing of it is a text", d, 1, 10, []int{i}, api.ErrForm)
		}
		// The pages go on behind it, as ahead of it.
		c := mustPut(t, p, text)
		texts[c] = text
		wantPages(t, "put again", p, 1, 10, texts)
		wantOpened(t, "put again", d, 1, 10, texts)
	}
}

func TestGet(t *testing.T) {
	d := disk.New(9)
	p := mustOpen(t, d, 1, 7)
	a := mustPut(t, p, textOf(1, 700))
	d.SetFuse(0)
	for range 3 {
		wantText(t, "again and again", p, a, textOf(1, 700))
	}
	if d.Down() || d.Writes() != 3 {
		t.Error("Get has written")
	}
	d.Restart()
	for _, name := range []int{-1, 0, 1, 2, 3, 4, 5, 8, 9, 1 << 16, a + 1<<16, a + 1<<32, math.MaxInt, math.MinInt} {
		if name != a {
			wantNoText(t, "no such text", p, name)
		}
	}
	takeDown(t, d)
	for name := range 9 {
		want := api.ErrNone
		if name == a {
			want = api.ErrLost
		}
		if text, e := p.Get(name); len(text) != 0 || e != want {
			t.Errorf("down: Get(%d): %d bytes, %v; not %v", name, len(text), e, want)
		}
	}
	d.Restart()
	wantText(t, "restarted", p, a, textOf(1, 700))
}

// A text that lies on the disk, but that Open didn't name, isn't in these pages.
func TestTextsThatWereNotNamed(t *testing.T) {
	d := disk.New(9)
	p := mustOpen(t, d, 1, 8)
	a, b := mustPut(t, p, []byte("a")), mustPut(t, p, []byte("b"))
	q := mustOpen(t, d, 1, 8, b)
	wantNoText(t, "not named", q, a)
	wantPages(t, "not named", q, 1, 8, map[int][]byte{b: []byte("b")})
	wantPages(t, "the first", p, 1, 8, map[int][]byte{a: []byte("a"), b: []byte("b")})
}

// What another has written over is no such text any more.
func TestGetOfWhatAnotherHasWrittenOver(t *testing.T) {
	for n := range 3 {
		d := disk.New(9)
		p := mustOpen(t, d, 1, 8)
		a := mustPut(t, p, textOf(1, 700))
		if e := d.Write(p.Blocks(a)[n], blockOf(1)); e != api.OK {
			t.Fatal(e)
		}
		if text, e := p.Get(a); len(text) != 0 || e != api.ErrNone {
			t.Errorf("the part %d: Get: %d bytes, %v", n, len(text), e)
		}
		if len(p.Blocks(a)) != 3 || p.Drop(a) != api.OK || len(p.Free()) != 8 {
			t.Errorf("the part %d: blocks that are used no more", n)
		}
	}
}

func TestDrop(t *testing.T) {
	d := disk.New(20)
	p := mustOpen(t, d, 1, 19)
	texts := map[int][]byte{}
	for n := range 6 {
		text := textOf(n, n*150)
		texts[mustPut(t, p, text)] = text
	}
	writes := d.Writes()
	d.SetFuse(0)
	for _, name := range p.Names() {
		blocks, free := p.Blocks(name), p.Free()
		mustDrop(t, p, name)
		delete(texts, name)
		wantNoText(t, "dropped", p, name)
		wantPages(t, "dropped", p, 1, 19, texts)
		if got := slices.Sorted(slices.Values(slices.Concat(blocks, free))); !slices.Equal(p.Free(), got) {
			t.Errorf("dropped: free %v; not %v", p.Free(), got)
		}
	}
	if d.Down() {
		t.Error("Drop has written")
	}
	wantWrites(t, "dropped", d, writes)
	if !slices.Equal(p.Free(), rising(1, 20)) {
		t.Errorf("all dropped: free %v", p.Free())
	}
}

func TestDropOfADiskThatIsDown(t *testing.T) {
	d := disk.New(5)
	p := mustOpen(t, d, 1, 4)
	a := mustPut(t, p, textOf(1, 300))
	takeDown(t, d)
	mustDrop(t, p, a)
	wantPages(t, "down", p, 1, 4, nil)
	d.Restart()
	b := mustPut(t, p, textOf(2, 900))
	wantPages(t, "restarted", p, 1, 4, map[int][]byte{b: textOf(2, 900)})
}

// R1: nil, and the zero Pages, which have no blocks.

func TestNilPages(t *testing.T) {
	var p *pages.Pages
	for range 2 {
		for _, size := range []int{0, 1, 20000, 20001} {
			wantNoPut(t, "nil", p, make([]byte, size), api.ErrArg)
		}
		for _, name := range []int{-1, 0, 1, math.MaxInt} {
			if text, e := p.Get(name); len(text) != 0 || e != api.ErrArg {
				t.Errorf("nil: Get(%d): %v, %v", name, text, e)
			}
			if e := p.Drop(name); e != api.ErrArg {
				t.Errorf("nil: Drop(%d): %v", name, e)
			}
			if blocks := p.Blocks(name); len(blocks) != 0 {
				t.Errorf("nil: Blocks(%d): %v", name, blocks)
			}
		}
		if len(p.Free()) != 0 || len(p.Names()) != 0 {
			t.Errorf("nil: %v, %v", p.Free(), p.Names())
		}
	}
}

func TestZeroPages(t *testing.T) {
	p := &pages.Pages{}
	wantPages(t, "zero", p, 0, 0, nil)
	wantNoPut(t, "zero", p, nil, api.ErrFull)
	wantNoPut(t, "zero", p, make([]byte, 20001), api.ErrLong)
	wantNoText(t, "zero", p, 0)
	wantPages(t, "zero", p, 0, 0, nil)
}

// R2: the object's history alone.

func TestEachPagesAreForThemselves(t *testing.T) {
	first, second := disk.New(4), disk.New(4)
	p, q := mustOpen(t, first, 0, 4), mustOpen(t, second, 0, 4)
	mustPut(t, p, textOf(1, 300))
	wantPages(t, "the other", q, 0, 4, nil)
	a := mustPut(t, q, textOf(2, 900))
	wantPages(t, "the other", q, 0, 4, map[int][]byte{a: textOf(2, 900)})
}

func TestSameCallsLayTheSameBlocks(t *testing.T) {
	var blocks [2][]byte
	var names [2][]int
	for n := range blocks {
		d := disk.New(20)
		p := mustOpen(t, d, 1, 19)
		for k := range 40 {
			text := textOf(k, k*41%700)
			for len(p.Free()) < takes(text) {
				mustDrop(t, p, p.Names()[0])
			}
			names[n] = append(names[n], mustPut(t, p, text))
			if k%7 == 0 {
				p = mustOpen(t, d, 1, 19, p.Names()...)
			}
		}
		for i := range 20 {
			b, e := d.Read(i)
			if e != api.OK {
				t.Fatal(e)
			}
			blocks[n] = append(blocks[n], b...)
		}
	}
	if !bytes.Equal(blocks[0], blocks[1]) || !slices.Equal(names[0], names[1]) {
		t.Error("the same calls have laid other blocks")
	}
}

// R3: memory.

// fill overwrites a list and its spare room.
func fill[T any](list []T, with T) {
	list = list[:cap(list)]
	for i := range list {
		list[i] = with
	}
}

func TestPutTextStaysAsItIsAndIsNotKept(t *testing.T) {
	for _, size := range []int{0, 1, 60, 238, 239, 500} {
		d := disk.New(5)
		p := mustOpen(t, d, 1, 4)
		room := textOf(1, size+100)
		before := slices.Clone(room)
		a := mustPut(t, p, room[:size])
		if !bytes.Equal(room, before) {
			t.Errorf("the text or its spare room was changed: %x", room)
		}
		fill(room, 0xee)
		wantPages(t, "overwritten", p, 1, 4, map[int][]byte{a: before[:size]})
		wantOpened(t, "overwritten", d, 1, 4, map[int][]byte{a: before[:size]})
	}
}

func TestNamesStayAsTheyAreAndAreNotKept(t *testing.T) {
	d := disk.New(9)
	p := mustOpen(t, d, 1, 8)
	a, b := mustPut(t, p, []byte("a")), mustPut(t, p, textOf(1, 300))
	for _, two := range [][]int{{a, b}, {b, a}} {
		room := append(slices.Clone(two), 91, 92, 93)
		before := slices.Clone(room)
		q := mustOpen(t, d, 1, 8, room[:2]...)
		if !slices.Equal(room, before) {
			t.Errorf("the names or their spare room were changed: %v", room)
		}
		fill(room, 7)
		wantPages(t, "overwritten", q, 1, 8, map[int][]byte{a: []byte("a"), b: textOf(1, 300)})
	}
}

func TestAnswersAreNewMemory(t *testing.T) {
	d := disk.New(12)
	p := mustOpen(t, d, 1, 11)
	texts := map[int][]byte{}
	for n := range 3 {
		text := textOf(n, n*300)
		texts[mustPut(t, p, text)] = text
	}
	dropped := mustPut(t, p, textOf(8, 300))
	mustDrop(t, p, dropped)
	opened := mustOpen(t, d, 1, 11, p.Names()...)
	for _, q := range []*pages.Pages{p, opened} {
		for _, name := range q.Names() {
			first, e := q.Get(name)
			second, f := q.Get(name)
			if e != api.OK || f != api.OK {
				t.Fatal(e, f)
			}
			fill(first, 0xee)
			if !bytes.Equal(second, texts[name]) {
				t.Error("two answers of Get share memory")
			}
			blocks := q.Blocks(name)
			fill(q.Blocks(name), -7)
			if !slices.Equal(q.Blocks(name), blocks) {
				t.Error("two answers of Blocks share memory")
			}
		}
		fill(q.Free(), -7)
		fill(q.Names(), -7)
		wantPages(t, "overwritten", q, 1, 11, texts)
	}
	free, names, blocks := p.Free(), p.Names(), p.Blocks(p.Names()[2])
	old := [][]int{slices.Clone(free), slices.Clone(names), slices.Clone(blocks)}
	mustDrop(t, p, names...)
	for range 3 {
		mustDrop(t, p, mustPut(t, p, textOf(9, 2000)))
	}
	if !slices.Equal(free, old[0]) || !slices.Equal(names, old[1]) || !slices.Equal(blocks, old[2]) {
		t.Error("an answer was changed by later calls")
	}
}
