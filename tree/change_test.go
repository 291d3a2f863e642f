package tree

import (
	"math/rand"
	"slices"
	"strconv"
	"testing"

	"reeve/api"
	"reeve/disk"
	"reeve/pages"
)

// sized is what runs cut.
type sized int

func (s sized) size() int { return int(s) }

// runs have all members in order, each run fits, and none is empty.
func TestRuns(t *testing.T) {
	r := rand.New(rand.NewSource(1))
	for range 2000 {
		most := 1 + r.Intn(nodeRoom)
		var list []sized
		for range r.Intn(60) {
			list = append(list, sized(1+r.Intn(most)))
		}
		cut := runs(list)
		for _, run := range cut {
			total := 0
			for _, s := range run {
				total += s.size()
			}
			if total == 0 || total > nodeRoom {
				t.Fatalf("a run of %d bytes", total)
			}
		}
		if !slices.Equal(slices.Concat(cut...), list) {
			t.Fatalf("%v of %v", cut, list)
		}
	}
	// Of one more than fit half go into each.
	if cut := runs(make24()); len(cut) != 2 || len(cut[0]) != 12 {
		t.Errorf("%v", cut)
	}
}

func make24() []sized { return slices.Repeat([]sized{refSize}, 24) }

// holdNode asks what the nodes of a tree keep to: levels, order, room, refs,
// and that no two side by side would fit into one.
func holdNode(t *testing.T, n *node, isTop bool) {
	t.Helper()
	if !n.isPut() || n.filled() == 0 || n.filled() > nodeRoom {
		t.Fatalf("a node with %d bytes, name %d", n.filled(), n.name)
	}
	if (n.level == 0) != (len(n.under) == 0) || (n.level == 0) != (len(n.items) > 0) {
		t.Fatalf("level %d: %d nodes, %d items", n.level, len(n.under), len(n.items))
	}
	if isTop && len(n.under) == 1 {
		t.Fatal("a root over one node alone")
	}
	for i, u := range n.under {
		if u.level != n.level-1 {
			t.Fatalf("level %d under %d", u.level, n.level)
		}
		if i > 0 && n.under[i-1].filled()+u.filled() <= nodeRoom {
			t.Fatalf("%d and %d bytes side by side", n.under[i-1].filled(), u.filled())
		}
		holdNode(t, u, false)
	}
	for _, i := range n.items {
		if i.isLong() != i.isPut() {
			t.Fatalf("a value of %d bytes: name %d", len(i.value), i.name)
		}
	}
}

// Nodes stay well filled under random changes, few and many at a time.
func TestNodesAreFilled(t *testing.T) {
	for seed := range 12 {
		r := rand.New(rand.NewSource(int64(seed)))
		p, errno := pages.Open(disk.New(8001), 1, 8000, nil)
		if errno != api.OK {
			t.Fatal(errno)
		}
		x, errno := Open(p, 0)
		if errno != api.OK {
			t.Fatal(errno)
		}
		for range 120 {
			// A stretch of the keys at a time, so that whole nodes go.
			from, many, goes := r.Intn(2000), 1+r.Intn(1+r.Intn(400)), r.Intn(5)
			var list []api.Change
			for k := range many {
				key := strconv.Itoa(10000 + from + k)
				list = append(list, api.Change{Key: key, Value: make([]byte, r.Intn(1+r.Intn(400))), Gone: r.Intn(5) < goes})
			}
			if errno := x.Apply(list); errno != api.OK {
				t.Fatal(errno)
			}
			if x.top != nil {
				holdNode(t, x.top, true)
			}
			x.Settle()
			if got := slices.Sorted(x.top.names()); !slices.Equal(got, p.Names()) {
				t.Fatalf("the tree needs %v; the pages have %v", got, p.Names())
			}
		}
	}
}

// mustApply does an Apply that nothing stands against, settles the tree, and
// holds its nodes and the pages.
func mustApply(t *testing.T, x *Tree, list ...api.Change) {
	t.Helper()
	if errno := x.Apply(list); errno != api.OK {
		t.Fatal(errno)
	}
	holdNode(t, x.top, true)
	x.Settle()
	if got := slices.Sorted(x.top.names()); !slices.Equal(got, x.pages.Names()) {
		t.Fatalf("the tree needs %v; the pages have %v", got, x.pages.Names())
	}
}

// The runs of these three would be one each, of which the last two fit into one leaf.
func TestNewLeavesAreJoined(t *testing.T) {
	_, p := newPages(t)
	x := &Tree{pages: p}
	var list []api.Change
	for i, size := range []int{100, 170, 60} {
		list = append(list, api.Change{Key: strconv.Itoa(i), Value: make([]byte, size-itemHead-1)})
	}
	mustApply(t, x, list...)
	if len(x.top.under) != 2 || len(x.top.under[1].items) != 2 {
		t.Errorf("%d leaves", len(x.top.under))
	}
}

// A branch that has one leaf alone, since the one beside it is full, is left
// alone with it: the leaf becomes the root, and no branch stays.
func TestRootsAreTakenDown(t *testing.T) {
	_, p := newPages(t)
	x := &Tree{pages: p}
	// One item a leaf.
	at := func(i int, gone bool) api.Change {
		return api.Change{Key: strconv.Itoa(100 + i), Value: make([]byte, 200), Gone: gone}
	}
	for i := range 35 {
		mustApply(t, x, at(i, false))
	}
	for i := range 11 {
		mustApply(t, x, at(i, true))
	}
	if x.top.level != 2 || len(x.top.under) != 2 || len(x.top.under[0].under) != 1 {
		t.Fatalf("level %d, %d nodes", x.top.level, len(x.top.under))
	}
	var list []api.Change
	for i := 12; i < 35; i++ {
		list = append(list, at(i, true))
	}
	mustApply(t, x, list...)
	if x.top.level != 0 || len(p.Names()) != 1 {
		t.Errorf("level %d, %d texts", x.top.level, len(p.Names()))
	}
}

// What is put is never changed: the old nodes are as they were.
func TestOldNodesStay(t *testing.T) {
	r := rand.New(rand.NewSource(1))
	p, errno := pages.Open(disk.New(3001), 1, 3000, nil)
	if errno != api.OK {
		t.Fatal(errno)
	}
	x, errno := Open(p, 0)
	if errno != api.OK {
		t.Fatal(errno)
	}
	var tops []*node
	var keys [][]string
	for range 25 {
		var list []api.Change
		for k := range 100 {
			if r.Intn(4) == 0 {
				list = append(list, api.Change{Key: strconv.Itoa(k), Value: make([]byte, r.Intn(250)), Gone: r.Intn(2) == 0})
			}
		}
		if errno := x.Apply(list); errno != api.OK {
			t.Fatal(errno)
		}
		tops = append(tops, x.top)
		keys = append(keys, x.Keys("", ""))
	}
	for i, top := range tops {
		old := Tree{top: top}
		if !slices.Equal(old.Keys("", ""), keys[i]) {
			t.Errorf("the tree number %d is another", i)
		}
		again, errno := Open(p, top.name)
		if errno != api.OK || !slices.Equal(again.Keys("", ""), keys[i]) {
			t.Errorf("the tree number %d: %v", i, errno)
		}
	}
}
