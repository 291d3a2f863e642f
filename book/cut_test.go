package book_test

import (
	"maps"
	"math/rand"
	"strconv"
	"strings"
	"testing"

	"reeve/api"
	"reeve/book"
	"reeve/disk"
)

// P10.6: room.

// bytesOf is how many bytes the keys and values have.
func (c content) bytesOf() int {
	total := 0
	for key, value := range c {
		total += len(key) + len(value)
	}
	return total
}

// isPromised tells whether a Commit of the list upon that content isn't full.
func isPromised(blocks int, c content, list []api.Change) bool {
	total := c.bytesOf()
	for _, change := range list {
		total += len(change.Key) + len(change.Value)
	}
	return 4*total+4000*(len(c)+len(list)) < 100*blocks
}

func TestPromisedRoomForOneKey(t *testing.T) {
	for blocks := 41; blocks < 1000; blocks += 1 + blocks/7 {
		for _, key := range []string{"a", strings.Repeat("a", maxKey)} {
			// The most bytes for which there is room by the promise.
			size := min((100*blocks-4001)/4-len(key), api.MaxValue)
			if size < 0 {
				continue
			}
			list := []api.Change{set(key, valueOf(1, size))}
			if !isPromised(blocks, nil, list) || size < api.MaxValue && isPromised(blocks, nil, []api.Change{set(key, valueOf(1, size+1))}) {
				t.Fatalf("%d blocks: %d bytes aren't the most", blocks, size)
			}
			d, b := newBook(t, blocks)
			mustCommit(t, b, list...)
			wantLasting(t, "one key", d, b, content{}.with(list))
			mustCommit(t, b, gone(key))
			mustCheckpoint(t, b)
			mustCommit(t, b, list...)
			mustCheckpoint(t, b)
			wantLasting(t, "one key, again", d, b, content{}.with(list))
		}
	}
}

// As many keys, and as long values, as are promised room, one by one and at
// once; then each of them again and again.
func TestPromisedRoomForManyKeys(t *testing.T) {
	for _, blocks := range []int{81, 200, 555, 1600} {
		for _, size := range []int{0, 1, 60, 230, 240, 1500, 10000} {
			for _, many := range []int{1, 3, 40} {
				d, b := newBook(t, blocks)
				c := content{}
				for i := range 100 {
					list := sets(i*many, many, size)
					if !isPromised(blocks, c, list) {
						break
					}
					mustCommit(t, b, list...)
					c = c.with(list)
				}
				wantLasting(t, "filled", d, b, c)
				for i := range 3 * blocks {
					list := sets(i%(len(c)+1), 1, size)
					if isPromised(blocks, c, list) {
						mustCommit(t, b, list...)
						c = c.with(list)
					}
				}
				wantLasting(t, "again and again", d, b, c)
			}
		}
	}
}

// A book that was full, and has been emptied, has the room that is promised.
func TestPromisedRoomBehindFull(t *testing.T) {
	for what, next := range fillings() {
		for _, blocks := range []int{41, 90, 400} {
			d, b := newBook(t, blocks)
			for range 2 {
				c := fill(t, d, b, next)
				for key := range c {
					mustCommit(t, b, gone(key))
				}
				for i := range 3 * blocks {
					list := sets(i%3, 1, 3000-i%2900)
					if e := b.Commit(list); e == api.ErrFull && isPromised(blocks, contentOf(b), list) {
						t.Fatalf("%s: %d blocks are full", what, blocks)
					}
					mustCommit(t, b, set("short", strconv.Itoa(i%10)))
				}
				wantLasting(t, what, d, b, contentOf(b))
			}
		}
	}
}

// P10.4: behind cuts.

// step is a call that may have written: how many writes there were ahead of it
// and behind it, and what the book has.
type step struct {
	start, end int
	// before and after are what it may have while the call is under way, result
	// what it has behind it, as it was answered, or as the next Open told.
	before, after, result content
}

// game plays random calls on a book, and keeps what it should be in memory.
type game struct {
	t     *testing.T
	r     *rand.Rand
	d     *disk.Disk
	b     *book.Book
	keys  int
	has   content
	steps []step
}

// key is one of few, of which some are as long as they may be.
func (g *game) key() string {
	k := g.r.Intn(g.keys)
	if k%5 == 0 {
		return strings.Repeat(string(rune('a'+k%26)), 60) + strconv.Itoa(k)
	}
	return strconv.Itoa(k)
}

// value is short mostly.
func (g *game) value() string {
	switch g.r.Intn(12) {
	case 0:
		return ""
	case 1:
		return valueOf(g.r.Intn(1000), 165+g.r.Intn(80))
	case 2:
		return valueOf(g.r.Intn(1000), g.r.Intn(1500))
	}
	return valueOf(g.r.Intn(1000), g.r.Intn(40))
}

// list is that of a Commit, with no key twice.
func (g *game) list() []api.Change {
	seen := content{}
	var list []api.Change
	for range g.r.Intn(2 + g.r.Intn(g.keys)) {
		key := g.key()
		if _, twice := seen[key]; twice {
			continue
		}
		seen[key] = ""
		if g.r.Intn(5) < 2 {
			list = append(list, gone(key))
		} else {
			list = append(list, set(key, g.value()))
		}
	}
	return list
}

func (g *game) commit() {
	g.t.Helper()
	list := g.list()
	start, pending := g.d.Writes(), g.b.Pending()
	e := g.b.Commit(list)
	after := g.has.with(list)
	switch e {
	case api.OK:
		g.steps = append(g.steps, step{start, g.d.Writes(), g.has, after, after})
		g.has = after
		if g.b.Pending() > pending+1 || len(list) == 0 && g.d.Writes() != start {
			g.t.Fatalf("%d pending behind %d; %d writes behind %d", g.b.Pending(), pending, g.d.Writes(), start)
		}
	case api.ErrFull:
		if isPromised(g.d.Blocks(), g.has, list) {
			g.t.Fatalf("full: %d keys, %d members, %d blocks", len(g.has), len(list), g.d.Blocks())
		}
		wantWrites(g.t, "full", g.d, start)
		wantPending(g.t, "full", g.b, pending)
	case api.ErrLost:
		g.lost(start, after)
	default:
		g.t.Fatalf("Commit: %v", e)
	}
}

func (g *game) checkpoint() {
	g.t.Helper()
	start := g.d.Writes()
	switch e := g.b.Checkpoint(); e {
	case api.OK:
		g.steps = append(g.steps, step{start, g.d.Writes(), g.has, g.has, g.has})
		wantPending(g.t, "checkpoint", g.b, 0)
	case api.ErrLost:
		g.lost(start, g.has)
	default:
		g.t.Fatalf("Checkpoint: %v", e)
	}
}

// lost holds a book behind a call that was lost, and opens it again.
func (g *game) lost(start int, after content) {
	g.t.Helper()
	if !g.d.Down() {
		g.t.Fatal("lost, but not down")
	}
	wantBook(g.t, "lost", g.b, g.has)
	wantMap(g.t, "lost", g.d, g.b)
	if e := g.b.Commit(nil); e != api.ErrLost {
		g.t.Fatalf("not over: %v", e)
	}
	if e := g.b.Checkpoint(); e != api.ErrLost {
		g.t.Fatalf("not over: %v", e)
	}
	wantNoOpen(g.t, "down", g.d, api.ErrLost)
	g.d.Restart()
	before := g.has
	g.open(before, after)
	g.steps = append(g.steps, step{start, g.d.Writes(), before, after, g.has})
}

// open opens the book, which has one of these.
func (g *game) open(some ...content) {
	g.t.Helper()
	g.b = mustOpen(g.t, g.d)
	got := contentOf(g.b)
	for _, c := range some {
		if maps.Equal(got, c) {
			g.has = c
			return
		}
	}
	g.t.Fatalf("opened: %d keys that nobody has laid so", len(got))
}

func (g *game) play(calls int) {
	g.t.Helper()
	for range calls {
		switch g.r.Intn(12) {
		case 0:
			g.d.SetFuse(g.r.Intn(12))
		case 1:
			g.d.Restart()
		case 2:
			g.open(g.has)
		case 3:
			g.checkpoint()
		default:
			g.commit()
		}
		wantBook(g.t, "the game", g.b, g.has)
		wantMap(g.t, "the game", g.d, g.b)
	}
	g.d.Restart()
	wantLasting(g.t, "the game", g.d, g.b, g.has)
}

// allowed tells what a book may have on the disk cut behind n writes.
func (g *game) allowed(n int) []content {
	some := []content{{}}
	for _, s := range g.steps {
		switch {
		case s.end <= n:
			some = []content{s.result}
		case s.start < n:
			some = []content{s.before, s.after}
		}
	}
	return some
}

// cutAt goes on upon the disk as it was behind n writes.
func (g *game) cutAt(n int) {
	g.t.Helper()
	some := g.allowed(n)
	before := g.steps
	g.steps = nil
	start := 0
	for _, s := range before {
		if s.end <= n {
			g.steps = append(g.steps, s)
			start = s.end
		}
	}
	g.d = g.d.Cut(n)
	g.open(some...)
	g.steps = append(g.steps, step{start, n, some[0], some[len(some)-1], g.has})
}

// Random calls with fuses, restarts and Opens; all cuts of the disk are held;
// then the game goes on upon one of them.
func TestManyCallsAgainstAModel(t *testing.T) {
	for seed := range 50 {
		r := rand.New(rand.NewSource(int64(seed)))
		g := &game{t: t, r: r, d: disk.New(fewestBlocks + r.Intn(1+r.Intn(300))), keys: 1 + r.Intn(40), has: content{}}
		g.open(content{})
		for range 3 {
			g.play(60)
			for n := range g.d.Writes() + 1 {
				held := *g
				held.cutAt(n)
			}
			if t.Failed() {
				t.Fatalf("seed %d", seed)
			}
			g.cutAt(r.Intn(g.d.Writes() + 1))
		}
	}
}

// Cuts behind cuts: each book that was opened behind a loss is lost again soon.
func TestCutsOneBehindTheOther(t *testing.T) {
	for seed := range 40 {
		r := rand.New(rand.NewSource(int64(seed)))
		g := &game{t: t, r: r, d: disk.New(fewestBlocks + r.Intn(100)), keys: 1 + r.Intn(20), has: content{}}
		g.open(content{})
		for range 150 {
			g.d.SetFuse(r.Intn(5))
			if r.Intn(3) == 0 {
				g.checkpoint()
			} else {
				g.commit()
			}
		}
		g.d.Restart()
		wantLasting(t, "cuts", g.d, g.b, g.has)
		if t.Failed() {
			t.Fatalf("seed %d", seed)
		}
	}
}
