package tree_test

import (
	"math/rand"
	"slices"
	"strconv"
	"strings"
	"testing"

	"reeve/api"
	"reeve/disk"
	"reeve/pages"
	"reeve/tree"
)

// P9.4: roots that were told, also behind cuts.

// told is a root that was told: its tree, the blocks that it needs, and how
// many writes its disk had done then.
type told struct {
	root   int
	blocks []int
	writes int
	has    content
}

// isThere tells whether the tree lies on the disk cut behind n writes: it was
// told by then, and none of its blocks was written since.
func (r told) isThere(d *disk.Disk, n int) bool {
	for k := r.writes; k < n; k++ {
		if slices.Contains(r.blocks, d.Written(k)) {
			return false
		}
	}
	return r.writes <= n
}

// needs tells the blocks that the tree of a root needs.
func needs(t *testing.T, d *disk.Disk, from, count, root int) []int {
	t.Helper()
	names, e := tree.Names(d, from, count, root)
	if e != api.OK {
		t.Fatalf("Names(%d): %v", root, e)
	}
	p := mustPages(t, d, from, count, names...)
	var blocks []int
	for _, name := range names {
		blocks = append(blocks, p.Blocks(name)...)
	}
	return blocks
}

// holdCut holds every block of a disk that was cut behind n writes against the
// roots that were told: it is the root of a tree that is there, or none.
func holdCut(t *testing.T, d *disk.Disk, n, from, count int, roots []told) {
	t.Helper()
	what := "a cut behind " + strconv.Itoa(n)
	cut := d.Cut(n)
	last := map[int]told{}
	for _, r := range roots {
		if r.writes <= n {
			last[r.root] = r
		}
	}
	for root := from; root < from+count; root++ {
		r, is := last[root]
		_, e := tree.Names(cut, from, count, root)
		switch {
		case is && r.isThere(d, n):
			wantRoot(t, what, cut, from, count, root, r.has)
		case is && e == api.OK:
			// Texts may have been written over with the same ones: it is still that tree, and no other.
			wantRoot(t, what+", written over", cut, from, count, root, r.has)
		default:
			wantNoNames(t, what, cut, from, count, root, api.ErrForm)
		}
	}
}

// game plays random calls on a tree, and keeps what it should be in memory.
type game struct {
	t           *testing.T
	r           *rand.Rand
	d           *disk.Disk
	p           *pages.Pages
	x           *tree.Tree
	from, count int
	keys        int
	has         content
	// roots are all that were told; since are those told since the last Settle or Open.
	roots, since []told
}

// key is one of few, of which some are as long as they may be.
func (g *game) key() string {
	k := g.r.Intn(g.keys)
	if k%3 == 0 {
		return strings.Repeat(string(rune('a'+k%26)), 60) + strconv.Itoa(k)
	}
	return strconv.Itoa(k)
}

// value is short mostly; the longest that fit into a leaf are among them.
func (g *game) value() string {
	switch g.r.Intn(8) {
	case 0:
		return ""
	case 1:
		return valueOf(g.r.Intn(1000), 165+g.r.Intn(75))
	case 2:
		return valueOf(g.r.Intn(1000), g.r.Intn(1200))
	}
	return valueOf(g.r.Intn(1000), g.r.Intn(40))
}

// list is that of an Apply, with no key twice.
func (g *game) list() []api.Change {
	seen := content{}
	var list []api.Change
	for range g.r.Intn(1 + g.r.Intn(g.keys)) {
		key := g.key()
		if _, twice := seen[key]; twice {
			continue
		}
		seen[key] = ""
		if g.r.Intn(5) < 2 {
			list = append(list, gone(key))
		} else {
			list = append(list, set(key, g.value()))
		}
	}
	return list
}

func (g *game) apply() {
	g.t.Helper()
	list := g.list()
	root, free, names, writes := g.x.Root(), g.p.Free(), g.p.Names(), g.d.Writes()
	e := g.x.Apply(list)
	switch e {
	case api.OK:
		g.has = g.has.with(list)
		if g.x.Root() != 0 && g.x.Root() != root {
			g.tell()
		}
		return
	case api.ErrFull:
		wantWrites(g.t, "full", g.d, writes)
	case api.ErrLost:
		if !g.d.Down() {
			g.t.Fatal("lost, but not down")
		}
	default:
		g.t.Fatalf("Apply: %v", e)
	}
	if g.x.Root() != root || !slices.Equal(g.p.Free(), free) || !slices.Equal(g.p.Names(), names) {
		g.t.Fatalf("%v has changed the pages or the root", e)
	}
}

// tell takes down the root of now.
func (g *game) tell() {
	g.t.Helper()
	up := g.d.Cut(g.d.Writes())
	r := told{g.x.Root(), needs(g.t, up, g.from, g.count, g.x.Root()), g.d.Writes(), g.has}
	g.roots = append(g.roots, r)
	g.since = append(g.since, r)
}

func (g *game) settle() {
	g.t.Helper()
	g.x.Settle()
	g.since = nil
	if !g.d.Down() {
		wantSettled(g.t, "the game", g.d, g.from, g.count, g.p, g.x)
	}
}

// open goes on with one of the roots that are there, or with none.
func (g *game) open() {
	g.t.Helper()
	g.d.Restart()
	there := []told{{}}
	for _, r := range g.roots {
		if r.isThere(g.d, g.d.Writes()) {
			there = append(there, r)
		}
	}
	from := there[len(there)-1]
	if g.r.Intn(3) == 0 {
		from = there[g.r.Intn(len(there))]
	}
	names, e := tree.Names(g.d, g.from, g.count, from.root)
	if e != api.OK {
		g.t.Fatalf("Names(%d): %v", from.root, e)
	}
	g.p = mustPages(g.t, g.d, g.from, g.count, names...)
	g.x = mustTree(g.t, g.p, from.root)
	g.has, g.since = from.has, nil
	wantSettled(g.t, "opened", g.d, g.from, g.count, g.p, g.x)
}

func (g *game) play(calls int) {
	g.t.Helper()
	for range calls {
		switch g.r.Intn(12) {
		case 0, 1:
			g.d.SetFuse(g.r.Intn(9))
		case 2:
			g.open()
		case 3, 4, 5:
			g.settle()
		default:
			g.apply()
		}
		if g.d.Down() && g.r.Intn(2) == 0 {
			g.d.Restart()
		}
		wantTree(g.t, "the game", g.x, g.has)
		if g.d.Down() {
			continue
		}
		// What was told since the last Settle is there, in these pages too.
		for _, r := range g.since {
			wantTree(g.t, "an old root", mustTree(g.t, g.p, r.root), r.has)
		}
	}
}

// cut goes on upon the disk as it was behind one of its writes.
func (g *game) cut() {
	g.t.Helper()
	g.d = g.d.Cut(g.r.Intn(g.d.Writes() + 1))
	g.roots = slices.DeleteFunc(g.roots, func(r told) bool { return r.writes > g.d.Writes() })
	g.open()
}

// Random calls with fuses, restarts and Opens; all cuts of the disk are held;
// then the game goes on upon one of them.
func TestManyCallsAgainstAModel(t *testing.T) {
	for seed := range 60 {
		r := rand.New(rand.NewSource(int64(seed)))
		from, count := 1+r.Intn(4), 2+r.Intn(50)
		g := &game{t: t, r: r, d: disk.New(from + count + r.Intn(3)), from: from, count: count, keys: 1 + r.Intn(30)}
		g.p = mustPages(t, g.d, from, count)
		g.x = mustTree(t, g.p, 0)
		for range 3 {
			g.play(40)
			for n := range g.d.Writes() + 1 {
				holdCut(t, g.d, n, from, count, g.roots)
			}
			if t.Failed() {
				t.Fatalf("seed %d", seed)
			}
			g.cut()
		}
	}
}

// Trees of several levels, changed at random; now and then some grow and shrink as a whole.
func TestGreatTreesAgainstAModel(t *testing.T) {
	const from, count = 3, 6000
	for seed := range 4 {
		r := rand.New(rand.NewSource(int64(seed)))
		d := disk.New(from + count)
		p := mustPages(t, d, from, count)
		x := mustTree(t, p, 0)
		has := content{}
		for step := range 30 {
			seen := content{}
			var list []api.Change
			share := r.Intn(4)
			for range r.Intn(1500) {
				key := strconv.Itoa(r.Intn(3000))
				if _, twice := seen[key]; twice {
					continue
				}
				seen[key] = ""
				if r.Intn(4) < share {
					list = append(list, gone(key))
				} else {
					list = append(list, set(key, valueOf(r.Intn(1000), r.Intn(50))))
				}
			}
			mustApply(t, x, list...)
			has = has.with(list)
			x.Settle()
			if step%5 == 4 {
				wantTree(t, "great", x, has)
				wantRoot(t, "great", d, from, count, x.Root(), has)
				wantSettled(t, "great", d, from, count, p, x)
				p = mustPages(t, d, from, count, p.Names()...)
				x = mustTree(t, p, x.Root())
			}
		}
		if t.Failed() {
			t.Fatalf("seed %d", seed)
		}
	}
}

// Keys that come one by one, rising, falling and mixed, and go so: the blocks
// that they take stay few.
func TestKeysOneByOne(t *testing.T) {
	orders := map[string]func(i int) int{
		"rising":  func(i int) int { return i },
		"falling": func(i int) int { return 499 - i },
		"mixed":   func(i int) int { return i * 271 % 500 },
	}
	for what, order := range orders {
		d, p, x := newTree(t, 600)
		has := content{}
		for i := range 500 {
			c := set("k"+strconv.Itoa(1000+order(i)), valueOf(i, 30))
			mustApply(t, x, c)
			has[c.Key] = string(c.Value)
			x.Settle()
		}
		wantTree(t, what, x, has)
		wantRoot(t, what, d, 1, 599, x.Root(), has)
		// Six of them fit into a block.
		if used := len(p.Names()); used > 500/3+500/3/10+5 {
			t.Errorf("%s: %d blocks", what, used)
		}
		for i := range 490 {
			c := gone("k" + strconv.Itoa(1000+order(i)))
			mustApply(t, x, c)
			delete(has, c.Key)
			x.Settle()
		}
		wantTree(t, what+", gone", x, has)
		if used := len(p.Names()); used > 8 {
			t.Errorf("%s: %d blocks for ten keys", what, used)
		}
	}
}
