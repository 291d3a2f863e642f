package tree

import (
	"bytes"
	"math/rand"
	"strings"
	"testing"

	"reeve/api"
	"reeve/disk"
	"reeve/pages"
)

const testBlocks = 200

// newPages are pages in all blocks of a new disk but the first.
func newPages(t *testing.T) (*disk.Disk, *pages.Pages) {
	t.Helper()
	d := disk.New(testBlocks)
	p, errno := pages.Open(d, 1, testBlocks-1, nil)
	if errno != api.OK {
		t.Fatal(errno)
	}
	return d, p
}

// put puts a text that somebody has made up.
func put(t *testing.T, p *pages.Pages, text []byte) ref {
	t.Helper()
	name, errno := p.Put(text)
	if errno != api.OK {
		t.Fatal(errno)
	}
	return refTo(name, text)
}

// bare is an item without a text of its own.
func bare(key, value string) *item { return &item{key: key, value: []byte(value)} }

// leaf puts a leaf of these items.
func leaf(t *testing.T, p *pages.Pages, kind byte, items ...*item) *node {
	t.Helper()
	n := &node{items: items}
	n.ref = put(t, p, n.text(kind))
	return n
}

// branch puts a branch of that level over these nodes.
func branch(t *testing.T, p *pages.Pages, kind byte, level int, under ...*node) *node {
	t.Helper()
	n := &node{level: level, under: under}
	n.ref = put(t, p, n.text(kind))
	return n
}

// wantForm asks for a root that is refused.
func wantForm(t *testing.T, what string, d *disk.Disk, p *pages.Pages, root int) {
	t.Helper()
	if x, errno := Open(p, root); x != nil || errno != api.ErrForm {
		t.Errorf("%s: Open: %v, %v", what, x, errno)
	}
	if names, errno := Names(d, 1, testBlocks-1, root); len(names) != 0 || errno != api.ErrForm {
		t.Errorf("%s: Names: %v, %v", what, names, errno)
	}
}

// wantKeys asks for a root that is one.
func wantKeys(t *testing.T, what string, d *disk.Disk, p *pages.Pages, root int, keys string) {
	t.Helper()
	x, errno := Open(p, root)
	if errno != api.OK || strings.Join(x.Keys("", ""), " ") != keys {
		t.Errorf("%s: Open: %q, %v", what, x.Keys("", ""), errno)
	}
	if _, errno := Names(d, 1, testBlocks-1, root); errno != api.OK {
		t.Errorf("%s: Names: %v", what, errno)
	}
}

// Roots that somebody has made up, right ones among them, so that the others
// are refused for what is wrong with them alone.
func TestRootsThatAreMadeUp(t *testing.T) {
	d, p := newPages(t)
	a, b := bare("a", "1"), bare("b", "2")
	one := leaf(t, p, innerKind, a)
	two := leaf(t, p, innerKind, b)
	wantKeys(t, "a leaf", d, p, leaf(t, p, rootKind, a, b).name, "a b")
	wantKeys(t, "a branch", d, p, branch(t, p, rootKind, 1, one, two).name, "a b")
	wantKeys(t, "two levels", d, p, branch(t, p, rootKind, 2, branch(t, p, innerKind, 1, one), branch(t, p, innerKind, 1, two)).name, "a b")

	wantForm(t, "a leaf in the midst", d, p, one.name)
	wantForm(t, "a branch in the midst", d, p, branch(t, p, innerKind, 1, one, two).name)
	wantForm(t, "a root under it", d, p, branch(t, p, rootKind, 1, leaf(t, p, rootKind, a), two).name)
	wantForm(t, "a leaf without items", d, p, leaf(t, p, rootKind).name)
	wantForm(t, "an empty leaf under it", d, p, branch(t, p, rootKind, 1, one, leaf(t, p, innerKind)).name)
	wantForm(t, "a branch without nodes", d, p, branch(t, p, rootKind, 1).name)
	wantForm(t, "falling keys", d, p, leaf(t, p, rootKind, b, a).name)
	wantForm(t, "a key twice", d, p, leaf(t, p, rootKind, a, a).name)
	wantForm(t, "falling leaves", d, p, branch(t, p, rootKind, 1, two, one).name)
	wantForm(t, "a key in two leaves", d, p, branch(t, p, rootKind, 1, one, leaf(t, p, innerKind, a)).name)
	wantForm(t, "a node twice", d, p, branch(t, p, rootKind, 1, one, one).name)
	wantForm(t, "a level too high", d, p, branch(t, p, rootKind, 2, one, two).name)
	wantForm(t, "levels that differ", d, p, branch(t, p, rootKind, 2, branch(t, p, innerKind, 1, one), two).name)
	wantForm(t, "a level too many", d, p, branch(t, p, rootKind, 1, branch(t, p, innerKind, 1, one), two).name)
	wantForm(t, "a key without bytes", d, p, leaf(t, p, rootKind, bare("", "1"), b).name)
	wantForm(t, "a key of 65 bytes", d, p, leaf(t, p, rootKind, bare(strings.Repeat("k", 65), "")).name)
	wantKeys(t, "a key of 64 bytes", d, p, leaf(t, p, rootKind, bare(strings.Repeat("k", 64), "")).name, strings.Repeat("k", 64))
	wantForm(t, "another text's sum", d, p, branch(t, p, rootKind, 1, &node{ref: ref{one.name, two.sum}}, two).name)
	for _, name := range []int{0, testBlocks - 1, testBlocks, 65535} {
		wantForm(t, "no text", d, p, branch(t, p, rootKind, 1, one, &node{ref: ref{name, two.sum}}).name)
	}
	for kind := range 256 {
		made := leaf(t, p, byte(kind), a, b)
		if byte(kind) != rootKind {
			wantForm(t, "no root's kind", d, p, made.name)
		}
		p.Drop(made.name)
	}
}

// Long values that somebody has made up.
func TestValuesThatAreMadeUp(t *testing.T) {
	d, p := newPages(t)
	long := &item{key: "k", value: bytes.Repeat([]byte("v"), 300)}
	long.ref = put(t, p, long.text())
	other := &item{key: "l", value: bytes.Repeat([]byte("v"), 300)}
	other.ref = long.ref
	wantKeys(t, "a long value", d, p, leaf(t, p, rootKind, long).name, "k")
	wantForm(t, "a value twice", d, p, leaf(t, p, rootKind, long, other).name)
	for _, size := range []int{299, 301, 538, 20000} {
		wantForm(t, "another length", d, p, leaf(t, p, rootKind, &item{key: "k", value: make([]byte, size), ref: long.ref}).name)
	}
	wantForm(t, "longer than any", d, p, leaf(t, p, rootKind, &item{key: "k", value: make([]byte, 20001), ref: long.ref}).name)
	for _, kind := range []byte{0, rootKind, innerKind, 'v'} {
		text := append([]byte{kind}, long.value[1:]...)
		other.ref = put(t, p, text)
		wantForm(t, "no value's kind", d, p, leaf(t, p, rootKind, other).name)
	}
	other.ref = put(t, p, nil)
	wantForm(t, "an empty text", d, p, leaf(t, p, rootKind, other).name)
	inner := leaf(t, p, innerKind, bare("a", "1"))
	other.ref = inner.ref
	wantForm(t, "a node", d, p, leaf(t, p, rootKind, other).name)
}

// Every text that is cut off, or has more behind it, is none; a root of which
// bytes are others is none, or has what it says; and all of it ends.
func TestTextsThatAreWrong(t *testing.T) {
	d, p := newPages(t)
	one := leaf(t, p, innerKind, bare("a", "1"), bare("b", strings.Repeat("v", 50)))
	long := &item{key: "k", value: bytes.Repeat([]byte("v"), 300)}
	long.ref = put(t, p, long.text())
	two := leaf(t, p, innerKind, bare("c", ""), long)
	texts := map[string][]byte{
		"a branch": (&node{level: 1, under: []*node{one, two}}).text(rootKind),
		"a leaf":   (&node{items: []*item{bare("a", "1"), bare("b", "2"), long}}).text(rootKind),
	}
	for what, text := range texts {
		whole := put(t, p, text)
		if x, errno := Open(p, whole.name); errno != api.OK || len(x.Keys("", "")) < 3 {
			t.Errorf("%s: %v", what, errno)
		}
		for size := range len(text) {
			cut := put(t, p, text[:size])
			// A leaf or a branch that ends behind one of its items or nodes is a shorter one.
			if x, errno := Open(p, cut.name); errno == api.OK && len(x.Keys("", "")) >= 3 || errno != api.OK && errno != api.ErrForm {
				t.Errorf("%s of %d bytes: %v", what, size, errno)
			}
			p.Drop(cut.name)
		}
		more := put(t, p, append(bytes.Clone(text), 0))
		wantForm(t, what+" with more behind it", d, p, more.name)
		for i := range text {
			for _, b := range []byte{1, 2, 3, 0x40, 0x80, 0xff} {
				other := bytes.Clone(text)
				other[i] ^= b
				made := put(t, p, other)
				x, errno := Open(p, made.name)
				if errno != api.OK && errno != api.ErrForm {
					t.Errorf("%s, byte %d: %v", what, i, errno)
				}
				if what == "a branch" && errno == api.OK {
					t.Errorf("%s, byte %d: %q", what, i, x.Keys("", ""))
				}
				p.Drop(made.name)
			}
		}
	}
	r := rand.New(rand.NewSource(1))
	for range 3000 {
		text := make([]byte, r.Intn(300))
		for i := range text {
			text[i] = byte(r.Intn(8))
		}
		made := put(t, p, append([]byte{rootKind}, text...))
		if _, errno := Open(p, made.name); errno != api.OK && errno != api.ErrForm {
			t.Fatal(errno)
		}
		p.Drop(made.name)
	}
}

// A value has a text of its own if no leaf of one block has room for it.
func TestValuesInLeavesAndInTexts(t *testing.T) {
	for keySize := 1; keySize <= maxKey; keySize++ {
		for size, texts := range map[int]int{0: 1, 1: 1, 235 - keySize - 2: 1, 236 - keySize - 2: 2, 20000: 2} {
			_, p := newPages(t)
			x := &Tree{pages: p}
			mustApply(t, x, api.Change{Key: strings.Repeat("k", keySize), Value: make([]byte, size)})
			if got := len(p.Names()); got != texts {
				t.Errorf("a key of %d bytes, a value of %d: %d texts", keySize, size, got)
			}
			if blocks := len(p.Blocks(x.Root())); blocks != 1 {
				t.Errorf("a root of %d blocks", blocks)
			}
		}
	}
}

// A node is no longer than a block's text.
func TestNodesThatAreTooLong(t *testing.T) {
	d, p := newPages(t)
	var under []*node
	for i := range 24 {
		under = append(under, leaf(t, p, innerKind, bare(string(rune('a'+i)), "1")))
	}
	wantKeys(t, "23 nodes", d, p, branch(t, p, rootKind, 1, under[:23]...).name, "a b c d e f g h i j k l m n o p q r s t u v w")
	wantForm(t, "24 nodes", d, p, branch(t, p, rootKind, 1, under...).name)
	a, b := bare("a", strings.Repeat("v", 100)), bare("b", strings.Repeat("v", 128))
	wantKeys(t, "238 bytes", d, p, leaf(t, p, rootKind, a, b).name, "a b")
	wantForm(t, "239 bytes", d, p, leaf(t, p, rootKind, a, bare("bb", strings.Repeat("v", 128))).name)
}

// A text of which a tree is part is written over with another of the same
// name, and of the right form: the old root is none any more.
func TestOldRootsOverNewTexts(t *testing.T) {
	d, p := newPages(t)
	x, errno := Open(p, 0)
	if errno != api.OK {
		t.Fatal(errno)
	}
	var list []api.Change
	for i := range 20 {
		list = append(list, api.Change{Key: string(rune('a' + i)), Value: bytes.Repeat([]byte{byte(i)}, 100)})
	}
	if errno := x.Apply(list); errno != api.OK {
		t.Fatal(errno)
	}
	old := x.top
	for _, u := range old.under {
		// One item has another value: its keys and all else are right.
		other := &node{items: append([]*item{bare(u.items[0].key, "other")}, u.items[1:]...)}
		cut := d.Cut(d.Writes())
		q, errno := pages.Open(cut, u.name, 1, nil)
		if errno != api.OK {
			t.Fatal(errno)
		}
		if name, errno := q.Put(other.text(innerKind)); errno != api.OK || name != u.name {
			t.Fatal(name, errno)
		}
		if names, errno := Names(cut, 1, testBlocks-1, old.name); errno != api.ErrForm {
			t.Errorf("%v, %v", names, errno)
		}
		if names, errno := Names(d, 1, testBlocks-1, old.name); errno != api.OK {
			t.Errorf("%v, %v", names, errno)
		}
	}
}
