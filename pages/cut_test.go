package pages_test

import (
	"math/rand"
	"slices"
	"testing"

	"reeve/api"
	"reeve/disk"
	"reeve/pages"
)

// P8.4: what was put, and hasn't been written over, also behind cuts.

// record is a text that was put: its blocks, and how many writes its disk had done behind it.
type record struct {
	text   []byte
	blocks []int
	writes int
}

// isThere tells whether a text lies on the disk cut behind n writes: it was put
// by then, and none of its blocks was written since.
func (r record) isThere(d *disk.Disk, n int) bool {
	for k := r.writes; k < n; k++ {
		if slices.Contains(r.blocks, d.Written(k)) {
			return false
		}
	}
	return r.writes <= n
}

// holdCut holds every block of a disk that was cut behind n writes against the
// texts that were put: it is the name of the text that is there, or of none.
func holdCut(t *testing.T, what string, d *disk.Disk, n, from, count int, records []record) {
	t.Helper()
	cut := d.Cut(n)
	there := map[int][]byte{}
	for _, r := range records {
		if r.isThere(d, n) {
			there[r.blocks[0]] = r.text
		}
	}
	for i := from; i < from+count; i++ {
		if _, is := there[i]; !is {
			wantNoOpen(t, what, cut, from, count, []int{i}, api.ErrForm)
		}
	}
	wantOpened(t, what, cut, from, count, there)
}

func TestCutBehindEachBlock(t *testing.T) {
	const from, count = 1, 40
	d := disk.New(from + count)
	p := mustOpen(t, d, from, count)
	var records []record
	for n := range 40 {
		text := textOf(n, n*97%1200)
		for len(p.Free()) < takes(text) {
			mustDrop(t, p, p.Names()[n%len(p.Names())])
		}
		name := mustPut(t, p, text)
		records = append(records, record{text, p.Blocks(name), d.Writes()})
	}
	for n := range d.Writes() + 1 {
		holdCut(t, "cut", d, n, from, count, records)
	}
}

func TestDroppedTextsAreThereTillTheyAreWrittenOver(t *testing.T) {
	d := disk.New(10)
	p := mustOpen(t, d, 1, 9)
	texts := map[int][]byte{}
	for n := range 3 {
		texts[mustPut(t, p, textOf(n, 600))] = textOf(n, 600)
	}
	mustDrop(t, p, p.Names()...)
	wantPages(t, "dropped", p, 1, 9, nil)
	wantOpened(t, "dropped", d, 1, 9, texts)
	a := mustPut(t, p, []byte("new"))
	for name, text := range texts {
		if slices.Contains(mustOpen(t, d.Cut(9), 1, 9, name).Blocks(name), a) {
			delete(texts, name)
			if name != a {
				wantNoOpen(t, "written over", d, 1, 9, []int{name}, api.ErrForm)
			}
			continue
		}
		wantText(t, "not written over", mustOpen(t, d, 1, 9, name), name, text)
	}
	texts[a] = []byte("new")
	wantOpened(t, "written over in part", d, 1, 9, texts)
}

// Texts that were lost lie over one that was put, of the same name and blocks,
// or of others: it is there whole, or not at all.
func TestLostTextsOverADroppedOne(t *testing.T) {
	const from, count = 2, 6
	for old := 1; old <= 5; old++ {
		for first := 1; first <= 5; first++ {
			for second := 1; second <= 5; second++ {
				for done := range second {
					d := disk.New(from + count)
					p := mustOpen(t, d, from, count)
					name := mustPut(t, p, textOf(1, old*238))
					records := []record{{textOf(1, old*238), p.Blocks(name), d.Writes()}}
					// Each takes the area's free blocks anew, so that they meet the old one's.
					lose(t, d, mustOpen(t, d, from, count), textOf(2, first*238), first-1)
					lose(t, d, mustOpen(t, d, from, count), textOf(3, second*238), done)
					for n := range d.Writes() + 1 {
						holdCut(t, "lost ones", d, n, from, count, records)
					}
					p = mustOpen(t, d, from, count)
					name = mustPut(t, p, textOf(4, second*238))
					records = append(records, record{textOf(4, second*238), p.Blocks(name), d.Writes()})
					lose(t, d, mustOpen(t, d, from, count), textOf(5, second*238), done)
					for n := range d.Writes() + 1 {
						holdCut(t, "a text behind lost ones", d, n, from, count, records)
					}
				}
			}
		}
	}
}

// game plays random calls on pages, and keeps what they should be in memory.
type game struct {
	t           *testing.T
	r           *rand.Rand
	d           *disk.Disk
	p           *pages.Pages
	from, count int
	texts       map[int][]byte
	// records are of all texts that were put, also of those that were dropped.
	records []record
}

// size is that of a text: of few blocks mostly, and at the edges between them.
func (g *game) size() int {
	switch g.r.Intn(12) {
	case 0:
		return 0
	case 1:
		return 20001
	case 2:
		return g.r.Intn(3000)
	case 3, 4, 5:
		return max(g.r.Intn(5)*238+g.r.Intn(3)-1, 0)
	}
	return g.r.Intn(900)
}

func (g *game) put() {
	g.t.Helper()
	text := textOf(g.r.Intn(1000), g.size())
	down, before := g.d.Down(), g.d.Writes()
	free := g.p.Free()
	name, e := g.p.Put(text)
	want := api.OK
	switch {
	case len(text) > api.MaxValue:
		want = api.ErrLong
	case takes(text) > len(free):
		want = api.ErrFull
	case g.d.Down():
		want = api.ErrLost
	}
	if e != want || down && g.d.Writes() != before {
		g.t.Fatalf("Put(%d bytes): %v; not %v; %d writes", len(text), e, want, g.d.Writes()-before)
	}
	for k := before; k < g.d.Writes(); k++ {
		if !slices.Contains(free, g.d.Written(k)) {
			g.t.Fatalf("Put wrote the block %d; free were %v", g.d.Written(k), free)
		}
	}
	if e == api.OK {
		wantWrites(g.t, "Put", g.d, before+takes(text))
		g.texts[name] = text
		g.records = append(g.records, record{text, g.p.Blocks(name), g.d.Writes()})
	} else if name != 0 {
		g.t.Fatalf("the name %d beside %v", name, e)
	}
}

func (g *game) drop() {
	g.t.Helper()
	name := g.from + g.r.Intn(g.count+2) - 1
	want := api.OK
	if _, is := g.texts[name]; !is {
		want = api.ErrNone
	}
	if e := g.p.Drop(name); e != want {
		g.t.Fatalf("Drop(%d): %v; not %v", name, e, want)
	}
	delete(g.texts, name)
}

// open opens the pages with some of the texts that lie on the disk.
func (g *game) open() {
	g.t.Helper()
	g.d.Restart()
	g.texts = map[int][]byte{}
	keep := g.r.Intn(4)
	for _, r := range g.records {
		if r.isThere(g.d, g.d.Writes()) && g.r.Intn(3) < keep {
			g.texts[r.blocks[0]] = r.text
		}
	}
	var names []int
	for name := range g.texts {
		names = append(names, name)
	}
	slices.Sort(names)
	g.r.Shuffle(len(names), func(i, j int) { names[i], names[j] = names[j], names[i] })
	g.p = mustOpen(g.t, g.d, g.from, g.count, names...)
}

func (g *game) play(calls int) {
	g.t.Helper()
	for range calls {
		switch g.r.Intn(10) {
		case 0, 1:
			g.d.SetFuse(g.r.Intn(7))
		case 2:
			g.open()
		case 3, 4:
			g.drop()
		default:
			g.put()
		}
		if g.d.Down() && g.r.Intn(2) == 0 {
			g.d.Restart()
		}
		if !g.d.Down() {
			wantPages(g.t, "the game", g.p, g.from, g.count, g.texts)
		}
	}
}

// cut goes on upon the disk as it was behind one of its writes.
func (g *game) cut() {
	g.t.Helper()
	g.d = g.d.Cut(g.r.Intn(g.d.Writes() + 1))
	g.records = slices.DeleteFunc(g.records, func(r record) bool { return r.writes > g.d.Writes() })
	g.open()
}

// Random calls with fuses, restarts and Opens; all cuts of the disk are held;
// then the game goes on upon one of them.
func TestManyCallsAgainstAModel(t *testing.T) {
	for seed := range 150 {
		r := rand.New(rand.NewSource(int64(seed)))
		from, count := r.Intn(4), 1+r.Intn(14)
		d := disk.New(from + count + r.Intn(3))
		g := &game{t: t, r: r, d: d, from: from, count: count, texts: map[int][]byte{}}
		g.p = mustOpen(t, d, from, count)
		for range 3 {
			g.play(40)
			for n := range g.d.Writes() + 1 {
				holdCut(t, "cut", g.d, n, from, count, g.records)
			}
			if t.Failed() {
				t.Fatalf("seed %d", seed)
			}
			g.cut()
		}
	}
}
