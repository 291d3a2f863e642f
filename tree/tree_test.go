package tree_test

import (
	"bytes"
	"maps"
	"math"
	"slices"
	"strconv"
	"strings"
	"testing"

	"reeve/api"
	"reeve/disk"
	"reeve/pages"
	"reeve/tree"
)

// content is what a tree should have.
type content map[string]string

// with is the content behind these changes.
func (c content) with(list []api.Change) content {
	made := maps.Clone(c)
	if made == nil {
		made = content{}
	}
	for _, change := range list {
		if change.Gone {
			delete(made, change.Key)
		} else {
			made[change.Key] = string(change.Value)
		}
	}
	return made
}

// set and gone make changes.
func set(key, value string) api.Change { return api.Change{Key: key, Value: []byte(value)} }

func gone(key string) api.Change { return api.Change{Key: key, Gone: true} }

// valueOf makes a value of that many bytes, which differ from those of other starts.
func valueOf(start, size int) string {
	b := make([]byte, size)
	for i := range b {
		b[i] = byte(start*31 + i*7 + i/256)
	}
	return string(b)
}

// manySets gives values of growing sizes to that many keys.
func manySets(many, step, most int) []api.Change {
	var list []api.Change
	for i := range many {
		list = append(list, set("k"+strconv.Itoa(1000+i), valueOf(i, i*step%(most+1))))
	}
	return list
}

// mustPages opens pages that nothing stands against.
func mustPages(t *testing.T, d *disk.Disk, from, count int, names ...int) *pages.Pages {
	t.Helper()
	p, e := pages.Open(d, from, count, names)
	if e != api.OK {
		t.Fatalf("pages.Open(%d, %d, %v): %v", from, count, names, e)
	}
	return p
}

// mustTree opens a tree that nothing stands against.
func mustTree(t *testing.T, p *pages.Pages, root int) *tree.Tree {
	t.Helper()
	x, e := tree.Open(p, root)
	if e != api.OK || x == nil || x.Root() != root {
		t.Fatalf("Open(%d): %v, %v, root %d", root, x, e, x.Root())
	}
	return x
}

// newTree opens a tree without keys on a new disk, in all blocks but the first.
func newTree(t *testing.T, blocks int) (*disk.Disk, *pages.Pages, *tree.Tree) {
	t.Helper()
	d := disk.New(blocks)
	p := mustPages(t, d, 1, blocks-1)
	return d, p, mustTree(t, p, 0)
}

// mustApply does an Apply that nothing stands against.
func mustApply(t *testing.T, x *tree.Tree, list ...api.Change) {
	t.Helper()
	if e := x.Apply(list); e != api.OK {
		t.Fatalf("Apply of %d changes: %v", len(list), e)
	}
}

// wantTree holds a tree against what it should have.
func wantTree(t *testing.T, what string, x *tree.Tree, c content) {
	t.Helper()
	keys := slices.Sorted(maps.Keys(c))
	if got := x.Keys("", ""); !slices.Equal(got, keys) {
		t.Errorf("%s: keys %q; not %q", what, got, keys)
	}
	for _, key := range keys {
		if v, ok := x.Get(key); !ok || string(v) != c[key] {
			t.Errorf("%s: Get(%q): %d bytes, %v; not %d, or others", what, key, len(v), ok, len(c[key]))
		}
		for _, other := range []string{key + "\x00", key[:len(key)-1], key[:len(key)-1] + "\xff"} {
			want, is := c[other]
			if v, ok := x.Get(other); ok != is || string(v) != want {
				t.Errorf("%s: Get(%q): %q, %v", what, other, v, ok)
			}
		}
	}
	if (x.Root() == 0) != (len(c) == 0) {
		t.Errorf("%s: root %d of %d keys", what, x.Root(), len(c))
	}
}

// wantRoot holds the tree that a root tells on a disk against what it should have.
func wantRoot(t *testing.T, what string, d *disk.Disk, from, count, root int, c content) {
	t.Helper()
	names, e := tree.Names(d, from, count, root)
	if e != api.OK || !slices.IsSorted(names) || root != 0 && !slices.Contains(names, root) {
		t.Errorf("%s: Names(%d): %v, %v", what, root, names, e)
		return
	}
	wantTree(t, what, mustTree(t, mustPages(t, d, from, count, names...), root), c)
}

// wantSettled holds the pages against what Names tells of the tree.
func wantSettled(t *testing.T, what string, d *disk.Disk, from, count int, p *pages.Pages, x *tree.Tree) {
	t.Helper()
	names, e := tree.Names(d, from, count, x.Root())
	if e != api.OK || !slices.Equal(names, p.Names()) {
		t.Errorf("%s: Names %v, %v; the pages have %v", what, names, e, p.Names())
	}
}

// wantNoOpen asks for an Open that is refused.
func wantNoOpen(t *testing.T, what string, p *pages.Pages, root int, want api.Errno) {
	t.Helper()
	if x, e := tree.Open(p, root); x != nil || e != want {
		t.Errorf("%s: Open(%d): %v, %v; not nil, %v", what, root, x, e, want)
	}
}

// wantNoNames asks for Names that are refused.
func wantNoNames(t *testing.T, what string, d *disk.Disk, from, count, root int, want api.Errno) {
	t.Helper()
	if names, e := tree.Names(d, from, count, root); len(names) != 0 || e != want {
		t.Errorf("%s: Names(%d, %d, %d): %v, %v; not none, %v", what, from, count, root, names, e, want)
	}
}

// wantNoApply asks for an Apply that is refused, and leaves all as it is.
func wantNoApply(t *testing.T, what string, p *pages.Pages, x *tree.Tree, c content, list []api.Change, want api.Errno) {
	t.Helper()
	root, free, names := x.Root(), p.Free(), p.Names()
	if e := x.Apply(list); e != want {
		t.Errorf("%s: Apply: %v; not %v", what, e, want)
	}
	wantTree(t, what, x, c)
	if x.Root() != root {
		t.Errorf("%s: root %d; not %d", what, x.Root(), root)
	}
	if !slices.Equal(p.Free(), free) || !slices.Equal(p.Names(), names) {
		t.Errorf("%s: a refused Apply has changed the pages", what)
	}
}

// wantWrites holds how many writes a disk has done against what it should be.
func wantWrites(t *testing.T, what string, d *disk.Disk, want int) {
	t.Helper()
	if d.Writes() != want {
		t.Errorf("%s: %d writes; not %d", what, d.Writes(), want)
	}
}

// takeDown makes a disk be down by a write that another than the tree does.
func takeDown(t *testing.T, d *disk.Disk) {
	t.Helper()
	d.SetFuse(0)
	if e := d.Write(0, make([]byte, api.BlockSize)); e != api.ErrLost || !d.Down() {
		t.Fatalf("the disk isn't down: %v", e)
	}
}

// The chapter's example.

func TestExample(t *testing.T) {
	d, p, x := newTree(t, 20)
	mustApply(t, x, set("a", "1"))
	x.Settle()
	root := x.Root()
	mustApply(t, x, set("a", "2"))
	wantTree(t, "the tree", x, content{"a": "2"})
	wantTree(t, "the old root", mustTree(t, p, root), content{"a": "1"})
	wantRoot(t, "the old root", d, 1, 19, root, content{"a": "1"})
	x.Settle()
	wantNoOpen(t, "settled", p, root, api.ErrForm)
	wantTree(t, "settled", mustTree(t, p, x.Root()), content{"a": "2"})
	wantSettled(t, "settled", d, 1, 19, p, x)
}

// P9.1: Open and Names.

func TestOpenOfNoPages(t *testing.T) {
	for _, root := range []int{0, 1, -1, 7, math.MaxInt, math.MinInt} {
		wantNoOpen(t, "nil", nil, root, api.ErrArg)
		wantNoOpen(t, "the zero pages", &pages.Pages{}, root, api.ErrArg)
	}
}

// Block 0 may be free, the name of a text, or one in the midst of a text.
func TestOpenOfAnAreaThatBeginsAtNought(t *testing.T) {
	for texts := range 4 {
		d := disk.New(8)
		p := mustPages(t, d, 0, 8)
		for n := range texts {
			if _, e := p.Put(make([]byte, n*300)); e != api.OK {
				t.Fatal(e)
			}
		}
		for root := range 9 {
			wantNoOpen(t, "at 0", p, root, api.ErrArg)
		}
	}
	// What came free last is taken last, so block 0 is the last of the next text.
	p := mustPages(t, disk.New(4), 0, 4)
	for _, size := range []int{0, 4 * 238} {
		name, e := p.Put(make([]byte, size))
		if e != api.OK {
			t.Fatal(e)
		}
		wantNoOpen(t, "0 is used", p, 0, api.ErrArg)
		wantNoOpen(t, "0 is used", p, name, api.ErrArg)
		if size == 0 {
			p.Drop(name)
		}
	}
}

func TestOpenOfNoRoot(t *testing.T) {
	d, p, x := newTree(t, 200)
	for _, root := range []int{1, 2, 199, 200, -1, 1 << 16, math.MaxInt, math.MinInt} {
		wantNoOpen(t, "new pages", p, root, api.ErrForm)
		wantNoNames(t, "a new disk", d, 1, 199, root, api.ErrForm)
	}
	mustApply(t, x, manySets(60, 17, 400)...)
	var others []int
	for _, text := range []string{"", "x", "\x00", "\x01", "\x02", "\x03", "\x02\x00", "\x02\x01", valueOf(1, 238), valueOf(2, 2000)} {
		name, e := p.Put([]byte(text))
		if e != api.OK {
			t.Fatal(e)
		}
		others = append(others, name)
	}
	writes := d.Writes()
	for root := -2; root < 203; root++ {
		if root == 0 || root == x.Root() {
			continue
		}
		wantNoOpen(t, "no root", p, root, api.ErrForm)
		wantNoNames(t, "no root", d, 1, 199, root, api.ErrForm)
	}
	for _, shift := range []int{1 << 8, 1 << 16, 1 << 32, math.MinInt, -1 << 16} {
		wantNoOpen(t, "far off", p, x.Root()+shift, api.ErrForm)
		wantNoNames(t, "far off", d, 1, 199, x.Root()+shift, api.ErrForm)
	}
	// Other texts beside it are none of the tree's.
	wantTree(t, "beside others", mustTree(t, p, x.Root()), content{}.with(manySets(60, 17, 400)))
	names, e := tree.Names(d, 1, 199, x.Root())
	if e != api.OK || slices.ContainsFunc(others, func(name int) bool { return slices.Contains(names, name) }) {
		t.Errorf("Names: %v, %v; others: %v", names, e, others)
	}
	wantWrites(t, "asked", d, writes)
}

// The pages lack one of the texts that the tree needs.
func TestOpenOfATreeThatLacksAText(t *testing.T) {
	d, _, x := newTree(t, 300)
	mustApply(t, x, manySets(100, 13, 500)...)
	names, e := tree.Names(d, 1, 299, x.Root())
	if e != api.OK || len(names) < 10 {
		t.Fatal(names, e)
	}
	for i, name := range names {
		some := slices.Delete(slices.Clone(names), i, i+1)
		wantNoOpen(t, "not named", mustPages(t, d, 1, 299, some...), x.Root(), api.ErrForm)
		p := mustPages(t, d, 1, 299, names...)
		if p.Drop(name) != api.OK {
			t.Fatal(name)
		}
		wantNoOpen(t, "dropped", p, x.Root(), api.ErrForm)
	}
	wantTree(t, "all", mustTree(t, mustPages(t, d, 1, 299, names...), x.Root()), content{}.with(manySets(100, 13, 500)))
}

// Each block that the tree needs is written over, with what nobody sealed.
func TestTreesThatAreWrittenOver(t *testing.T) {
	d, p, x := newTree(t, 120)
	mustApply(t, x, manySets(40, 13, 500)...)
	for _, name := range p.Names() {
		for _, i := range p.Blocks(name) {
			over := d.Cut(d.Writes())
			q := mustPages(t, over, 1, 119, p.Names()...)
			if e := over.Write(i, make([]byte, api.BlockSize)); e != api.OK {
				t.Fatal(e)
			}
			wantNoOpen(t, "written over", q, x.Root(), api.ErrForm)
			wantNoNames(t, "written over", over, 1, 119, x.Root(), api.ErrForm)
		}
	}
}

func TestNamesOfNoArea(t *testing.T) {
	for _, area := range [][2]int{{0, 0}, {0, 1}, {1, 1}, {1, 0}, {-1, 1}} {
		for _, root := range []int{0, 1, -1} {
			wantNoNames(t, "nil", nil, area[0], area[1], root, api.ErrArg)
			wantNoNames(t, "the zero disk", &disk.Disk{}, area[0], area[1], root, api.ErrArg)
		}
	}
	d := disk.New(5)
	for from := -3; from < 9; from++ {
		for count := -3; count < 9; count++ {
			if from >= 1 && count >= 1 && from+count <= 5 {
				wantRoot(t, "an area", d, from, count, 0, nil)
				wantNoNames(t, "an area", d, from, count, 2, api.ErrForm)
			} else {
				wantNoNames(t, "no area", d, from, count, 0, api.ErrArg)
				wantNoNames(t, "no area", d, from, count, 2, api.ErrArg)
			}
		}
	}
	far := []int{math.MaxInt, math.MaxInt - 1, math.MinInt, math.MinInt + 5, 1 << 32, 1 << 16}
	for _, a := range far {
		for _, b := range append(far, -1, 0, 1, 5) {
			wantNoNames(t, "far off", d, a, b, 0, api.ErrArg)
			wantNoNames(t, "far off", d, b, a, 0, api.ErrArg)
		}
	}
	wantWrites(t, "asked", d, 0)
}

// The area lacks some of the blocks that the tree needs.
func TestNamesOfAPieceOfTheArea(t *testing.T) {
	d, p, x := newTree(t, 60)
	mustApply(t, x, manySets(20, 13, 300)...)
	var used []int
	for _, name := range p.Names() {
		used = append(used, p.Blocks(name)...)
	}
	low, high := slices.Min(used), slices.Max(used)
	wantRoot(t, "just its blocks", d, low, high+1-low, x.Root(), content{}.with(manySets(20, 13, 300)))
	wantNoNames(t, "without the lowest", d, low+1, high-low, x.Root(), api.ErrForm)
	wantNoNames(t, "without the highest", d, low, high-low, x.Root(), api.ErrForm)
}

func TestNamesErrorsInTheirOrder(t *testing.T) {
	d, p, x := newTree(t, 20)
	mustApply(t, x, set("a", "1"))
	none := p.Free()[0]
	takeDown(t, d)
	for _, root := range []int{0, x.Root(), none, -1, 99} {
		wantNoNames(t, "down", d, 1, 19, root, api.ErrLost)
		wantNoNames(t, "down, at 0", d, 0, 20, root, api.ErrArg)
		wantNoNames(t, "down, no area", d, 1, 20, root, api.ErrArg)
	}
	d.Restart()
	wantNoNames(t, "restarted", d, 1, 19, none, api.ErrForm)
	wantNoNames(t, "restarted, at 0", d, 0, 20, x.Root(), api.ErrArg)
	wantRoot(t, "restarted", d, 1, 19, x.Root(), content{"a": "1"})
	wantRoot(t, "restarted", d, 1, 19, 0, nil)
}

// A root that can't be read isn't known to be one or none; the root 0 needs no read.
func TestOpenOfADiskThatIsDown(t *testing.T) {
	d, p, x := newTree(t, 20)
	mustApply(t, x, set("a", "1"))
	none := p.Free()[0]
	takeDown(t, d)
	wantNoOpen(t, "down", p, x.Root(), api.ErrLost)
	wantNoOpen(t, "down", p, none, api.ErrForm)
	wantTree(t, "down", mustTree(t, p, 0), nil)
	d.Restart()
	wantTree(t, "restarted", mustTree(t, p, x.Root()), content{"a": "1"})
}

// A value with a root's bytes, in a text of its own, is no root.
func TestValuesAreNoRoots(t *testing.T) {
	_, p, x := newTree(t, 100)
	mustApply(t, x, set("a", valueOf(1, 200)), set("b", "2"))
	text, e := p.Get(x.Root())
	if e != api.OK {
		t.Fatal(e)
	}
	mustApply(t, x, set(strings.Repeat("c", 64), string(text)), set("d", string(text)))
	for _, name := range p.Names() {
		old, e := tree.Open(p, name)
		if e == api.OK && name != x.Root() && len(old.Keys("", "")) != 2 {
			t.Errorf("%d is a root: %q", name, old.Keys("", ""))
		}
	}
	x.Settle()
	for _, name := range p.Names() {
		if name != x.Root() {
			wantNoOpen(t, "a value, or a node in the midst", p, name, api.ErrForm)
		}
	}
}

// P9.2: Apply.

func TestApplyOfWrongKeys(t *testing.T) {
	d, p, x := newTree(t, 400)
	first := []api.Change{set("a", "1"), set(strings.Repeat("k", 64), "2")}
	mustApply(t, x, first...)
	c := content{}.with(first)
	long, tooLong := strings.Repeat("k", 65), make([]byte, 20001)
	wrong := map[string][]api.Change{
		"no bytes":              {set("", "1")},
		"no bytes, gone":        {gone("")},
		"65 bytes":              {set(long, "1")},
		"65 bytes, gone":        {gone(long)},
		"many bytes":            {set(strings.Repeat("k", 1<<16), "1")},
		"twice":                 {set("b", "1"), set("b", "1")},
		"twice, far apart":      {set("b", "1"), set("c", "1"), set("a", "1"), set("b", "2")},
		"twice, gone":           {gone("a"), gone("a")},
		"twice, gone and set":   {gone("a"), set("b", ""), set("a", "1")},
		"twice, not there":      {gone("none"), gone("none")},
		"twice, as it is":       {set("a", "1"), set("a", "1")},
		"behind right ones":     {set("b", "1"), set("c", "1"), set("", "1")},
		"behind a long value":   {{Key: "b", Value: tooLong}, set("", "1")},
		"ahead of a long one":   {set(long, ""), {Key: "b", Value: tooLong}},
		"with a long value":     {{Key: "", Value: tooLong}},
		"twice, a long value":   {{Key: "b", Value: tooLong}, {Key: "b", Value: tooLong}},
		"twice, no room at all": append(manySets(90, 0, 0), append(bigSets(6), set("x", ""), set("x", ""))...),
	}
	writes := d.Writes()
	for what, list := range wrong {
		wantNoApply(t, what, p, x, c, list, api.ErrArg)
	}
	takeDown(t, d)
	for what, list := range wrong {
		wantNoApply(t, "down, "+what, p, x, c, list, api.ErrArg)
	}
	wantWrites(t, "wrong keys", d, writes)
}

// bigSets gives values of MaxValue bytes to that many keys.
func bigSets(many int) []api.Change {
	var list []api.Change
	for i := range many {
		list = append(list, set("big"+strconv.Itoa(i), valueOf(i, 20000)))
	}
	return list
}

func TestApplyOfLongValues(t *testing.T) {
	d, p, x := newTree(t, 400)
	mustApply(t, x, set("a", "1"))
	tooLong := make([]byte, 20001)
	wrong := map[string][]api.Change{
		"one more":                 {{Key: "b", Value: tooLong}},
		"many more":                {{Key: "b", Value: make([]byte, 1<<20)}},
		"of a key that is there":   {{Key: "a", Value: tooLong}},
		"of a key that is gone":    {{Key: "a", Value: tooLong, Gone: true}},
		"of a key that isn't here": {{Key: "none", Value: tooLong, Gone: true}},
		"behind right ones":        {set("b", ""), gone("a"), {Key: "c", Value: tooLong}},
		"no room either":           append(bigSets(5), api.Change{Key: "c", Value: tooLong}),
	}
	writes := d.Writes()
	for what, list := range wrong {
		wantNoApply(t, what, p, x, content{"a": "1"}, list, api.ErrLong)
	}
	takeDown(t, d)
	for what, list := range wrong {
		wantNoApply(t, "down, "+what, p, x, content{"a": "1"}, list, api.ErrLong)
	}
	wantWrites(t, "long values", d, writes)
	d.Restart()
	mustApply(t, x, bigSets(2)...)
	wantTree(t, "of 20000 bytes", x, content{"a": "1"}.with(bigSets(2)))
	wantRoot(t, "of 20000 bytes", d, 1, 399, x.Root(), content{"a": "1"}.with(bigSets(2)))
}

// Values of all sizes about those at which something changes, with short and long keys.
func TestValuesOfAllSizes(t *testing.T) {
	sizes := []int{1000, 2379, 2380, 2381, 10000, 19991, 19992, 19993, 19998, 19999, 20000}
	for size := range 500 {
		sizes = append(sizes, size)
	}
	for _, key := range []string{"k", strings.Repeat("k", 40), strings.Repeat("\xff", 64)} {
		d, p, x := newTree(t, 300)
		for _, size := range sizes {
			value := valueOf(size, size)
			mustApply(t, x, set(key, value))
			wantTree(t, "a size", x, content{key: value})
			wantRoot(t, "a size", d, 1, 299, x.Root(), content{key: value})
			x.Settle()
			wantSettled(t, "a size", d, 1, 299, p, x)
		}
	}
}

func TestKeysOfAllSizesAndBytes(t *testing.T) {
	d, _, x := newTree(t, 400)
	var list []api.Change
	for size := 1; size <= 64; size++ {
		list = append(list, set(strings.Repeat("m", size), "size"+strconv.Itoa(size)))
	}
	for b := range 256 {
		list = append(list, set(string([]byte{byte(b)})+"!", strconv.Itoa(b)))
		list = append(list, set(string([]byte{'m', byte(b), 0xff}), strconv.Itoa(b)))
	}
	list = append(list, set("\x00", "nought"), set("\x00\x00", "two"), set("\xff\xff", "high"))
	mustApply(t, x, list...)
	wantTree(t, "keys", x, content{}.with(list))
	wantRoot(t, "keys", d, 1, 399, x.Root(), content{}.with(list))
}

// The order of a list means nothing.
func TestListsInAnyOrder(t *testing.T) {
	list := append(manySets(50, 11, 300), gone("k1003"+"x"), set("a", "1"), set("z", "2"))
	backward := slices.Clone(list)
	slices.Reverse(backward)
	turned := append(slices.Clone(list[20:]), list[:20]...)
	for _, l := range [][]api.Change{list, backward, turned} {
		d, _, x := newTree(t, 200)
		mustApply(t, x, l...)
		wantTree(t, "any order", x, content{}.with(list))
		wantRoot(t, "any order", d, 1, 199, x.Root(), content{}.with(list))
	}
}

func TestApplyThatChangesNothing(t *testing.T) {
	d, p, x := newTree(t, 100)
	same := func(what string, c content, list ...api.Change) {
		t.Helper()
		root, free, writes := x.Root(), p.Free(), d.Writes()
		mustApply(t, x, list...)
		wantTree(t, what, x, c)
		if x.Root() != root || !slices.Equal(p.Free(), free) || d.Writes() != writes {
			t.Errorf("%s: root %d; not %d; %d writes", what, x.Root(), root, d.Writes()-writes)
		}
	}
	same("no keys, empty list", nil)
	same("no keys, passed over", nil, gone("a"), gone("b"))
	mustApply(t, x, set("a", "1"), set("b", valueOf(1, 900)), set("c", ""))
	c := content{"a": "1", "b": valueOf(1, 900), "c": ""}
	same("empty list", c)
	same("passed over", c, gone("none"), gone("B"), gone("aa"), gone("z"))
	same("as it is", c, set("b", valueOf(1, 900)), set("a", "1"), api.Change{Key: "c"})
	takeDown(t, d)
	same("down", c, gone("none"), set("a", "1"))
}

// What Gone has as its value means nothing.
func TestGoneKeys(t *testing.T) {
	d, p, x := newTree(t, 300)
	mustApply(t, x, manySets(100, 19, 400)...)
	c := content{}.with(manySets(100, 19, 400))
	for i := range 100 {
		list := []api.Change{{Key: "k" + strconv.Itoa(1000+i*37%100), Value: []byte("no value"), Gone: true}, gone("none")}
		mustApply(t, x, list...)
		c = c.with(list)
		wantTree(t, "gone", x, c)
		x.Settle()
		wantSettled(t, "gone", d, 1, 299, p, x)
	}
	if x.Root() != 0 || len(p.Names()) != 0 || len(p.Free()) != 299 {
		t.Errorf("all gone: root %d, names %v", x.Root(), p.Names())
	}
	mustApply(t, x, set("a", "1"))
	wantTree(t, "anew", x, content{"a": "1"})
	mustApply(t, x, gone("a"))
	wantTree(t, "gone again", x, nil)
}

// Taking all out needs no block, and so no room and no write.
func TestAllGoneOnAFullDiskThatIsDown(t *testing.T) {
	d, p, x := newTree(t, 3)
	mustApply(t, x, set("a", "1"))
	for len(p.Free()) > 0 {
		if _, e := p.Put(nil); e != api.OK {
			t.Fatal(e)
		}
	}
	takeDown(t, d)
	mustApply(t, x, gone("a"))
	wantTree(t, "gone", x, nil)
}

// Areas of all sizes, from far too small ones on: no room, and nothing is
// written; or room, and all of it is there.
func TestApplyWithoutRoom(t *testing.T) {
	lists := map[string][]api.Change{
		"one":       {set("a", "1")},
		"a value":   {set("a", valueOf(1, 2000))},
		"the most":  bigSets(1),
		"many":      manySets(60, 7, 50),
		"many long": manySets(30, 53, 900),
	}
	for what, list := range lists {
		total := 0
		for _, c := range list {
			total += len(c.Key) + len(c.Value)
		}
		had := false
		for blocks := 2; blocks < 150; blocks++ {
			d, p, x := newTree(t, blocks)
			// The fuse ends at the first write: having no room comes ahead of that.
			d.SetFuse(0)
			e := x.Apply(list)
			if d.Down() != (e == api.ErrLost) {
				t.Fatalf("%s: %d blocks: %v, down %v", what, blocks, e, d.Down())
			}
			wantTree(t, what, x, nil)
			if len(p.Free()) != blocks-1 || x.Root() != 0 {
				t.Errorf("%s: %d free of %d, root %d", what, len(p.Free()), blocks-1, x.Root())
			}
			if e == api.ErrFull {
				if had || total+1000 < (blocks-1)*238/3 {
					t.Errorf("%s: no room in %d blocks for %d bytes", what, blocks-1, total)
				}
				takeDown(t, d)
				wantNoApply(t, what+", down", p, x, nil, list, api.ErrFull)
				continue
			}
			had = true
			if (blocks-1)*238 < total {
				t.Errorf("%s: room in %d blocks for %d bytes", what, blocks-1, total)
			}
			d.Restart()
			mustApply(t, x, list...)
			wantRoot(t, what, d, 1, blocks-1, x.Root(), content{}.with(list))
		}
		if !had {
			t.Errorf("%s: never room", what)
		}
	}
}

// The room that it has is used to the last block, and what isn't settled has its room.
func TestApplyWithJustEnoughRoom(t *testing.T) {
	for _, list := range [][]api.Change{{set("k1003", "new")}, manySets(60, 7, 300), {set("k1010", valueOf(3, 3000)), gone("k1011")}} {
		before := manySets(50, 29, 300)
		_, p, x := newTree(t, 400)
		mustApply(t, x, before...)
		x.Settle()
		first := 399 - len(p.Free())
		mustApply(t, x, list...)
		takes := 399 - len(p.Free()) - first
		_, p, x = newTree(t, 1+first+takes)
		mustApply(t, x, before...)
		mustApply(t, x, list...)
		if len(p.Free()) != 0 {
			t.Errorf("%d blocks free", len(p.Free()))
		}
		wantTree(t, "to the last block", x, content{}.with(before).with(list))
		_, p, x = newTree(t, first+takes)
		mustApply(t, x, before...)
		wantNoApply(t, "one block less", p, x, content{}.with(before), list, api.ErrFull)
	}
}

// The power fails behind each block of an Apply.
func TestApplyThatIsLost(t *testing.T) {
	before := manySets(40, 29, 300)
	list := append(manySets(30, 13, 500), gone("k1035"), set("a", "1"), set("z", valueOf(1, 1000)))
	for done := 0; ; done++ {
		d, p, x := newTree(t, 400)
		mustApply(t, x, before...)
		x.Settle()
		c, root := content{}.with(before), x.Root()
		d.SetFuse(done)
		e := x.Apply(list)
		if e == api.OK {
			if done < 10 || d.Down() {
				t.Errorf("behind %d writes: OK, down %v", done, d.Down())
			}
			break
		}
		if e != api.ErrLost || !d.Down() || x.Root() != root || len(p.Free()) != len(mustFree(t, d, root)) {
			t.Fatalf("behind %d writes: %v, root %d, free %d", done, e, x.Root(), len(p.Free()))
		}
		wantTree(t, "lost", x, c)
		wantNoApply(t, "lost, down", p, x, c, list, api.ErrLost)
		d.Restart()
		wantTree(t, "restarted", x, c)
		wantRoot(t, "restarted", d, 1, 399, root, c)
		x.Settle()
		wantSettled(t, "restarted", d, 1, 399, p, x)
		mustApply(t, x, list...)
		wantTree(t, "again", x, c.with(list))
		wantRoot(t, "again", d, 1, 399, x.Root(), c.with(list))
		wantRoot(t, "the old root", d, 1, 399, root, c)
		x.Settle()
		wantSettled(t, "again", d, 1, 399, p, x)
	}
}

// mustFree tells the blocks that the tree of that root leaves free.
func mustFree(t *testing.T, d *disk.Disk, root int) []int {
	t.Helper()
	up := d.Cut(d.Writes())
	names, e := tree.Names(up, 1, d.Blocks()-1, root)
	if e != api.OK {
		t.Fatal(e)
	}
	return mustPages(t, up, 1, d.Blocks()-1, names...).Free()
}

// A change of one key writes few blocks, whatever the other keys have.
func TestApplyWritesWhatIsChanged(t *testing.T) {
	d, _, x := newTree(t, 3000)
	mustApply(t, x, manySets(1000, 7, 300)...)
	x.Settle()
	for i := range 100 {
		before := d.Writes()
		mustApply(t, x, set("k"+strconv.Itoa(1000+i*7), "new"+strconv.Itoa(i)))
		if n := d.Writes() - before; n > 12 {
			t.Errorf("%d writes of one key", n)
		}
		x.Settle()
	}
}

// P9.3: Settle, Get, Keys.

// Between two Settles each root that was told is a tree, and its texts stay;
// behind the second one only the last is.
func TestOldRootsTillSettle(t *testing.T) {
	d, p, x := newTree(t, 900)
	mustApply(t, x, manySets(30, 29, 300)...)
	x.Settle()
	c := content{}.with(manySets(30, 29, 300))
	roots, contents := []int{x.Root()}, []content{c}
	for i := range 30 {
		list := []api.Change{set("k"+strconv.Itoa(1000+i*3), valueOf(i, i*37)), gone("k" + strconv.Itoa(1000+i*7%60))}
		if list[0].Key == list[1].Key {
			list = list[:1]
		}
		mustApply(t, x, list...)
		c = c.with(list)
		roots, contents = append(roots, x.Root()), append(contents, c)
	}
	for i, root := range roots {
		wantTree(t, "an old root", mustTree(t, p, root), contents[i])
		wantRoot(t, "an old root", d, 1, 899, root, contents[i])
	}
	writes := d.Writes()
	x.Settle()
	wantWrites(t, "Settle", d, writes)
	wantSettled(t, "settled", d, 1, 899, p, x)
	for i, root := range roots {
		if root != x.Root() {
			wantNoOpen(t, "settled", p, root, api.ErrForm)
		}
		// Nothing was written over yet.
		wantRoot(t, "an old root", d, 1, 899, root, contents[i])
	}
	wantTree(t, "settled", x, c)
	x.Settle()
	wantSettled(t, "settled twice", d, 1, 899, p, x)
	wantTree(t, "settled twice", x, c)
}

// Texts that the tree never needed stay.
func TestSettleLeavesOtherTexts(t *testing.T) {
	d, p, x := newTree(t, 100)
	other, e := p.Put(valueOfBytes(1, 600))
	if e != api.OK {
		t.Fatal(e)
	}
	x.Settle()
	mustApply(t, x, set("a", valueOf(1, 500)))
	mustApply(t, x, set("a", valueOf(2, 500)))
	x.Settle()
	names, e := tree.Names(d, 1, 99, x.Root())
	want := slices.Sorted(slices.Values(append(names, other)))
	if e != api.OK || !slices.Equal(p.Names(), want) {
		t.Errorf("the pages have %v; not %v", p.Names(), want)
	}
	if text, e := p.Get(other); e != api.OK || !bytes.Equal(text, valueOfBytes(1, 600)) {
		t.Errorf("another text: %d bytes, %v", len(text), e)
	}
}

func valueOfBytes(start, size int) []byte { return []byte(valueOf(start, size)) }

// A tree that was opened needs what it found: that is dropped too.
func TestSettleOfATreeThatWasOpened(t *testing.T) {
	d, p, x := newTree(t, 200)
	mustApply(t, x, manySets(40, 29, 300)...)
	x.Settle()
	p = mustPages(t, d, 1, 199, p.Names()...)
	x = mustTree(t, p, x.Root())
	x.Settle()
	wantSettled(t, "opened", d, 1, 199, p, x)
	mustApply(t, x, append(manySets(10, 31, 300), gone("k1020"))...)
	x.Settle()
	wantSettled(t, "changed", d, 1, 199, p, x)
	x = mustTree(t, p, x.Root())
	var list []api.Change
	for _, key := range x.Keys("", "") {
		list = append(list, gone(key))
	}
	mustApply(t, x, list...)
	x.Settle()
	wantSettled(t, "all gone", d, 1, 199, p, x)
	if len(p.Free()) != 199 {
		t.Errorf("all gone: %d free", len(p.Free()))
	}
}

func TestSettleOfADiskThatIsDown(t *testing.T) {
	d, p, x := newTree(t, 20)
	mustApply(t, x, set("a", "1"))
	mustApply(t, x, set("a", "2"))
	takeDown(t, d)
	x.Settle()
	if !slices.Equal(p.Names(), []int{x.Root()}) {
		t.Errorf("names %v, root %d", p.Names(), x.Root())
	}
	wantTree(t, "down", x, content{"a": "2"})
}

func TestKeys(t *testing.T) {
	_, _, x := newTree(t, 300)
	var all []string
	var list []api.Change
	for i := range 120 {
		key := strconv.Itoa(i * 7919 % 1000)
		all = append(all, key)
		list = append(list, set(key, valueOf(i, i*5%200)))
	}
	mustApply(t, x, list...)
	slices.Sort(all)
	bounds := append(slices.Clone(all), "", "\x00", "0", "10", "100000", "5", "55", "999", "9999", ":", "\xff", strings.Repeat("5", 90))
	for _, from := range bounds {
		for _, to := range bounds {
			var want []string
			for _, key := range all {
				if key >= from && (to == "" || key < to) {
					want = append(want, key)
				}
			}
			if got := x.Keys(from, to); !slices.Equal(got, want) {
				t.Fatalf("Keys(%q, %q): %q; not %q", from, to, got, want)
			}
		}
	}
}

func TestGet(t *testing.T) {
	d, _, x := newTree(t, 300)
	list := manySets(80, 29, 600)
	mustApply(t, x, list...)
	for _, key := range []string{"", "k", "k999", "k1000\x00", "k10000", "k2", "a", "z", strings.Repeat("k", 64), strings.Repeat("k", 1<<16)} {
		if v, ok := x.Get(key); ok || len(v) != 0 {
			t.Errorf("Get(%.70q): %q, %v", key, v, ok)
		}
	}
	// A value of no bytes is one.
	if v, ok := x.Get("k1000"); !ok || len(v) != 0 {
		t.Errorf("no bytes: %q, %v", v, ok)
	}
	takeDown(t, d)
	wantTree(t, "down", x, content{}.with(list))
}

// R1: nil, and the zero Tree, which has no pages.

func TestNilTree(t *testing.T) {
	var x *tree.Tree
	for range 2 {
		for _, list := range [][]api.Change{nil, {set("a", "1")}, {set("", "")}, {{Key: "a", Value: make([]byte, 20001)}}} {
			if e := x.Apply(list); e != api.ErrArg {
				t.Errorf("nil: Apply: %v", e)
			}
		}
		if v, ok := x.Get("a"); ok || len(v) != 0 || x.Root() != 0 || len(x.Keys("", "")) != 0 {
			t.Errorf("nil: %q, %v, %d", v, ok, x.Root())
		}
		x.Settle()
	}
}

func TestZeroTree(t *testing.T) {
	x := &tree.Tree{}
	mustApply(t, x)
	if e := x.Apply([]api.Change{set("a", "1")}); e != api.ErrFull {
		t.Errorf("zero: %v", e)
	}
	x.Settle()
	wantTree(t, "zero", x, nil)
}

// R2: the object's history alone.

func TestSameCallsLayTheSameBlocks(t *testing.T) {
	var blocks [2][]byte
	var roots [2][]int
	for n := range blocks {
		d, _, x := newTree(t, 300)
		for k := range 40 {
			mustApply(t, x, manySets(k*7%50, k, 400)...)
			roots[n] = append(roots[n], x.Root())
			x.Settle()
		}
		for i := range 300 {
			b, e := d.Read(i)
			if e != api.OK {
				t.Fatal(e)
			}
			blocks[n] = append(blocks[n], b...)
		}
	}
	if !bytes.Equal(blocks[0], blocks[1]) || !slices.Equal(roots[0], roots[1]) {
		t.Error("the same calls have laid other blocks")
	}
}

// Two trees of one root don't know of each other, till one drops what the other needs.
func TestTwoTreesOfOneRoot(t *testing.T) {
	_, p, x := newTree(t, 200)
	mustApply(t, x, manySets(30, 29, 300)...)
	y := mustTree(t, p, x.Root())
	c := content{}.with(manySets(30, 29, 300))
	mustApply(t, x, set("a", "x"), gone("k1001"))
	mustApply(t, y, set("a", "y"), gone("k1020"))
	wantTree(t, "the one", x, c.with([]api.Change{set("a", "x"), gone("k1001")}))
	wantTree(t, "the other", y, c.with([]api.Change{set("a", "y"), gone("k1020")}))
	wantTree(t, "the one", mustTree(t, p, x.Root()), c.with([]api.Change{set("a", "x"), gone("k1001")}))
	wantTree(t, "the other", mustTree(t, p, y.Root()), c.with([]api.Change{set("a", "y"), gone("k1020")}))
}

// R3: memory.

func TestApplyLeavesItsListAndKeepsNothingOfIt(t *testing.T) {
	for _, size := range []int{0, 1, 100, 300, 2000} {
		d, _, x := newTree(t, 100)
		value := append(valueOfBytes(1, size), 91, 92, 93)
		room := []api.Change{{Key: "b", Value: value[:size]}, {Key: "a", Value: value[:size:size]}, gone("c"), set("spare", "x")}
		before := []api.Change{{Key: "b", Value: bytes.Clone(value[:size])}, {Key: "a", Value: bytes.Clone(value[:size])}, gone("c"), set("spare", "x")}
		mustApply(t, x, room[:3]...)
		for i, c := range room {
			if c.Key != before[i].Key || !bytes.Equal(c.Value, before[i].Value) || c.Gone != before[i].Gone {
				t.Errorf("the list or its spare room was changed: %d", i)
			}
		}
		if !bytes.Equal(value, append(valueOfBytes(1, size), 91, 92, 93)) {
			t.Error("a value or its spare room was changed")
		}
		for i := range value {
			value[i] = 0xee
		}
		clear(room)
		c := content{"a": valueOf(1, size), "b": valueOf(1, size)}
		wantTree(t, "overwritten", x, c)
		mustApply(t, x, set("d", "1"))
		wantTree(t, "overwritten", x, c.with([]api.Change{set("d", "1")}))
		wantRoot(t, "overwritten", d, 1, 99, x.Root(), c.with([]api.Change{set("d", "1")}))
	}
}

func TestAnswersAreNewMemory(t *testing.T) {
	d, _, x := newTree(t, 200)
	list := manySets(40, 29, 600)
	mustApply(t, x, list...)
	names, e := tree.Names(d, 1, 199, x.Root())
	if e != api.OK {
		t.Fatal(e)
	}
	opened := mustTree(t, mustPages(t, d.Cut(d.Writes()), 1, 199, names...), x.Root())
	clear(names[:cap(names)])
	for _, y := range []*tree.Tree{x, opened} {
		for _, key := range y.Keys("", "") {
			v, _ := y.Get(key)
			v = v[:cap(v)]
			for i := range v {
				v[i] = 0xee
			}
		}
		keys := y.Keys("", "")
		clear(keys[:cap(keys)])
		wantTree(t, "overwritten", y, content{}.with(list))
		more := []api.Change{set("new", "1"), gone("k1003")}
		mustApply(t, y, more...)
		wantTree(t, "overwritten", y, content{}.with(list).with(more))
	}
	wantRoot(t, "overwritten", d, 1, 199, x.Root(), content{}.with(list).with([]api.Change{set("new", "1"), gone("k1003")}))
}
