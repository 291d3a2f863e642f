package book_test

import (
	"bytes"
	"maps"
	"slices"
	"strconv"
	"strings"
	"testing"

	"reeve/api"
	"reeve/book"
	"reeve/disk"
)

// The chapter's numbers.
const (
	fewestBlocks = 24
	maxKey       = 64
	maxList      = 40000
)

// content is what a book should have.
type content map[string]string

// with is the content behind these changes.
func (c content) with(list []api.Change) content {
	made := content{}
	maps.Copy(made, c)
	for _, change := range list {
		if change.Gone {
			delete(made, change.Key)
		} else {
			made[change.Key] = string(change.Value)
		}
	}
	return made
}

// set and gone make changes.
func set(key, value string) api.Change { return api.Change{Key: key, Value: []byte(value)} }

func gone(key string) api.Change { return api.Change{Key: key, Gone: true} }

// valueOf makes a value of that many bytes, which differ from those of other starts.
func valueOf(start, size int) string {
	b := make([]byte, size)
	for i := range b {
		b[i] = byte(start*31 + i*7 + i/256)
	}
	return string(b)
}

// sets gives values of that size to keys from that number on.
func sets(from, many, size int) []api.Change {
	var list []api.Change
	for i := range many {
		list = append(list, set("k"+strconv.Itoa(100000+from+i), valueOf(from+i, size)))
	}
	return list
}

// mustOpen opens a disk that nothing stands against.
func mustOpen(t *testing.T, d *disk.Disk) *book.Book {
	t.Helper()
	b, e := book.Open(d)
	if e != api.OK || b == nil {
		t.Fatalf("Open: %v, %v", b, e)
	}
	return b
}

// newBook opens a new disk.
func newBook(t *testing.T, blocks int) (*disk.Disk, *book.Book) {
	t.Helper()
	d := disk.New(blocks)
	return d, mustOpen(t, d)
}

// mustCommit does a Commit that nothing stands against.
func mustCommit(t *testing.T, b *book.Book, list ...api.Change) {
	t.Helper()
	if e := b.Commit(list); e != api.OK {
		t.Fatalf("Commit of %d changes: %v", len(list), e)
	}
}

// mustCheckpoint does a Checkpoint that nothing stands against.
func mustCheckpoint(t *testing.T, b *book.Book) {
	t.Helper()
	if e := b.Checkpoint(); e != api.OK {
		t.Fatalf("Checkpoint: %v", e)
	}
}

// contentOf is what a book tells that it has.
func contentOf(b *book.Book) content {
	c := content{}
	for _, key := range b.Keys("", "") {
		v, _ := b.Get(key)
		c[key] = string(v)
	}
	return c
}

// wantBook holds a book against what it should have.
func wantBook(t *testing.T, what string, b *book.Book, c content) {
	t.Helper()
	keys := slices.Sorted(maps.Keys(c))
	if got := b.Keys("", ""); !slices.Equal(got, keys) {
		t.Errorf("%s: keys %q; not %q", what, got, keys)
	}
	for _, key := range keys {
		if v, ok := b.Get(key); !ok || string(v) != c[key] {
			t.Errorf("%s: Get(%q): %d bytes, %v; not %d, or others", what, key, len(v), ok, len(c[key]))
		}
		for _, other := range []string{key + "\x00", key[:len(key)-1], key[:len(key)-1] + "\xff"} {
			want, is := c[other]
			if v, ok := b.Get(other); ok != is || string(v) != want {
				t.Errorf("%s: Get(%q): %q, %v", what, other, v, ok)
			}
		}
	}
}

// wantPending holds how many lists are pending against what it should be.
func wantPending(t *testing.T, what string, b *book.Book, want int) {
	t.Helper()
	if b.Pending() != want {
		t.Errorf("%s: %d pending; not %d", what, b.Pending(), want)
	}
}

// wantLasting holds a book, and the one that lies on its disk, against what it should have.
func wantLasting(t *testing.T, what string, d *disk.Disk, b *book.Book, c content) {
	t.Helper()
	wantBook(t, what, b, c)
	again := mustOpen(t, d)
	wantBook(t, what+", opened again", again, c)
	wantPending(t, what+", opened again", again, b.Pending())
	if !sameMap(again.Map(), b.Map()) {
		t.Errorf("%s, opened again: another Map", what)
	}
}

// wantNoOpen asks for an Open that is refused.
func wantNoOpen(t *testing.T, what string, d *disk.Disk, want api.Errno) {
	t.Helper()
	if b, e := book.Open(d); b != nil || e != want {
		t.Errorf("%s: Open: %v, %v; not nil, %v", what, b, e, want)
	}
}

// wantNoCommit asks for a Commit that is refused, and leaves all as it is.
func wantNoCommit(t *testing.T, what string, d *disk.Disk, b *book.Book, list []api.Change, want api.Errno) {
	t.Helper()
	c, m, pending, writes := contentOf(b), b.Map(), b.Pending(), d.Writes()
	if e := b.Commit(list); e != want {
		t.Errorf("%s: Commit: %v; not %v", what, e, want)
	}
	wantBook(t, what, b, c)
	wantPending(t, what, b, pending)
	wantWrites(t, what, d, writes)
	if !sameMap(b.Map(), m) {
		t.Errorf("%s: another Map", what)
	}
}

// wantWrites holds how many writes a disk has done against what it should be.
func wantWrites(t *testing.T, what string, d *disk.Disk, want int) {
	t.Helper()
	if d.Writes() != want {
		t.Errorf("%s: %d writes; not %d", what, d.Writes(), want)
	}
}

// takeDown makes a disk be down by a write that another than the book does.
func takeDown(t *testing.T, d *disk.Disk) {
	t.Helper()
	d.SetFuse(0)
	if e := d.Write(0, make([]byte, api.BlockSize)); e != api.ErrLost || !d.Down() {
		t.Fatalf("the disk isn't down: %v", e)
	}
}

// copyWith is the disk as it is, with these blocks written over.
func copyWith(t *testing.T, d *disk.Disk, blocks ...int) *disk.Disk {
	t.Helper()
	made := d.Cut(d.Writes())
	for _, i := range blocks {
		if e := made.Write(i, bytes.Repeat([]byte{0xa5}, api.BlockSize)); e != api.OK {
			t.Fatalf("Write(%d): %v", i, e)
		}
	}
	return made
}

func sameMap(a, b book.Map) bool {
	return slices.Equal(a.Super, b.Super) && slices.Equal(a.Log, b.Log) &&
		slices.Equal(a.Used, b.Used) && slices.Equal(a.Free, b.Free)
}

// wantMap holds a Map against a disk: its lists rise, and have each block once.
func wantMap(t *testing.T, what string, d *disk.Disk, b *book.Book) {
	t.Helper()
	m := b.Map()
	all := slices.Concat(m.Super, m.Log, m.Used, m.Free)
	for _, list := range [][]int{m.Super, m.Log, m.Used, m.Free} {
		if !slices.IsSorted(list) {
			t.Errorf("%s: %v doesn't rise", what, list)
		}
	}
	slices.Sort(all)
	for i, block := range all {
		if i != block {
			t.Fatalf("%s: the block %d is missing, or twice", what, i)
		}
	}
	if len(all) != d.Blocks() {
		t.Errorf("%s: %d blocks; not %d", what, len(all), d.Blocks())
	}
	if !slices.Equal(m.Super, []int{0, 1}) {
		t.Errorf("%s: Super %v", what, m.Super)
	}
	if len(m.Log) != d.Blocks()/4 || m.Log[0] != 2 || m.Log[len(m.Log)-1] != d.Blocks()/4+1 {
		t.Errorf("%s: Log %v", what, m.Log)
	}
}

// The chapter's example.

func TestExample(t *testing.T) {
	d, b := newBook(t, fewestBlocks)
	mustCommit(t, b, set("a", "1"))
	mustCommit(t, b, set("b", "2"), gone("a"))
	wantBook(t, "behind both", b, content{"b": "2"})
	wantBook(t, "on Cut behind one write less", mustOpen(t, d.Cut(d.Writes()-1)), content{"a": "1"})
	wantBook(t, "on Cut behind all", mustOpen(t, d.Cut(d.Writes())), content{"b": "2"})
}

// P10.1: Open.

func TestOpenOfTooFewBlocks(t *testing.T) {
	wantNoOpen(t, "nil", nil, api.ErrArg)
	wantNoOpen(t, "the zero disk", &disk.Disk{}, api.ErrArg)
	for _, blocks := range []int{-1, 0, 1, 2, 3, 20, 22, 23} {
		d := disk.New(blocks)
		wantNoOpen(t, "a small disk", d, api.ErrArg)
		wantWrites(t, "a small disk", d, 0)
	}
	d := disk.New(fewestBlocks - 1)
	takeDown(t, d)
	wantNoOpen(t, "a small disk that is down", d, api.ErrArg)
}

func TestOpenOfANewDisk(t *testing.T) {
	for _, blocks := range []int{24, 25, 26, 27, 28, 100, 1001, api.MostBlocks} {
		d := disk.New(blocks)
		d.SetFuse(0)
		for range 2 {
			b := mustOpen(t, d)
			wantBook(t, "new", b, content{})
			wantPending(t, "new", b, 0)
			wantMap(t, "new", d, b)
			if len(b.Map().Used) != 0 {
				t.Errorf("a new disk of %d blocks: used are %v", blocks, b.Map().Used)
			}
		}
		wantWrites(t, "new", d, 0)
		d.SetFuse(-1)
		b := mustOpen(t, d)
		mustCommit(t, b, set("a", "1"))
		mustCheckpoint(t, b)
		mustCommit(t, b, set("b", "2"))
		wantLasting(t, "no more", d, b, content{"a": "1", "b": "2"})
	}
}

func TestOpenOfADiskThatIsDown(t *testing.T) {
	d, b := newBook(t, 60)
	hold := func(what string, c content) {
		t.Helper()
		takeDown(t, d)
		for range 2 {
			wantNoOpen(t, what, d, api.ErrLost)
		}
		d.Restart()
		wantLasting(t, what, d, b, c)
	}
	hold("new", content{})
	mustCommit(t, b, set("a", "1"))
	hold("pending", content{"a": "1"})
	mustCheckpoint(t, b)
	hold("in the tree", content{"a": "1"})
	mustCommit(t, b, gone("a"))
	mustCheckpoint(t, b)
	hold("gone", content{})
}

func TestOpenWritesNothing(t *testing.T) {
	d, b := newBook(t, 90)
	for i := range 30 {
		mustCommit(t, b, set("k"+strconv.Itoa(i%7), valueOf(i, 20*i)))
		if i%4 == 3 {
			mustCheckpoint(t, b)
		}
		writes := d.Writes()
		d.SetFuse(0)
		wantLasting(t, "fused", d, b, contentOf(b))
		if d.Down() {
			t.Fatal("Open has written")
		}
		wantWrites(t, "opened", d, writes)
		d.SetFuse(-1)
		b = mustOpen(t, d)
	}
}

// P10.2: Commit.

func TestCommitOfOneKey(t *testing.T) {
	d, b := newBook(t, 1200)
	for _, key := range []string{"a", "\x00", "\xff", strings.Repeat("x", maxKey), strings.Repeat("\x00", maxKey)} {
		for _, size := range []int{0, 1, 100, 232, 233, 234, 239, 240, 241, 1000, api.MaxValue} {
			c := contentOf(b).with([]api.Change{set(key, valueOf(size, size))})
			mustCommit(t, b, set(key, valueOf(size, size)))
			wantLasting(t, "a value of "+strconv.Itoa(size), d, b, c)
		}
		mustCommit(t, b, gone(key))
		wantLasting(t, "gone", d, b, content{})
	}
}

func TestCommitOfManyAtOnce(t *testing.T) {
	d, b := newBook(t, 400)
	c := content{}
	lists := [][]api.Change{
		{set("b", "1"), set("a", ""), set("c", "3")},
		{gone("a"), set("b", "22"), gone("none"), set("d", "4")},
		{gone("none")},
		{set("a", "again"), set("b", "22")},
		{gone("d"), gone("c"), gone("b"), gone("a")},
		{},
		sets(0, 50, 100),
		{{Key: "x", Value: []byte("left aside"), Gone: true}, {Key: "k100003", Value: []byte("left aside"), Gone: true}},
	}
	for i, list := range lists {
		mustCommit(t, b, list...)
		c = c.with(list)
		wantLasting(t, "list "+strconv.Itoa(i), d, b, c)
	}
	mustCheckpoint(t, b)
	wantLasting(t, "checkpoint", d, b, c)
}

// refusal is a list that is refused, whatever the book has.
type refusal struct {
	what string
	list []api.Change
	want api.Errno
}

func refusals() []refusal {
	long := valueOf(1, api.MaxValue+1)
	most := valueOf(1, api.MaxValue)
	longKey := strings.Repeat("k", maxKey+1)
	return []refusal{
		{"no key", []api.Change{set("", "1")}, api.ErrArg},
		{"no key that is gone", []api.Change{gone("")}, api.ErrArg},
		{"a key of 65 bytes", []api.Change{set(longKey, "1")}, api.ErrArg},
		{"a key of 65 bytes that is gone", []api.Change{gone(longKey)}, api.ErrArg},
		{"the last key is none", []api.Change{set("a", "1"), set("b", "2"), gone("")}, api.ErrArg},
		{"a key twice", []api.Change{set("a", "1"), set("b", "2"), set("a", "1")}, api.ErrArg},
		{"a key twice, once gone", []api.Change{set("a", "1"), gone("a")}, api.ErrArg},
		{"a long value", []api.Change{set("a", long)}, api.ErrLong},
		{"a long value behind others", []api.Change{gone("b"), set("a", long)}, api.ErrLong},
		{"a long value of one that is gone", []api.Change{{Key: "a", Value: []byte(long), Gone: true}}, api.ErrLong},
		{"a long value ahead of no key", []api.Change{set("a", long), set("", "1")}, api.ErrArg},
		{"a long value ahead of a key twice", []api.Change{set("a", long), gone("a")}, api.ErrArg},
		{"40001 bytes", []api.Change{set("a", most), set("b", most[:19999])}, api.ErrLong},
		{"40001 bytes by a key", []api.Change{set("a", most), set("bb", most[:19998])}, api.ErrLong},
		{"40001 bytes by one that is gone", []api.Change{set("a", most), set("b", most[:19998]), gone("c")}, api.ErrLong},
		{"many bytes", []api.Change{set("a", most), set("b", most), set("c", most)}, api.ErrLong},
		{"many bytes, and no key", []api.Change{set("a", most), set("b", most), set("c", most), gone("")}, api.ErrArg},
		{"many bytes by keys alone", manyGone(700, maxKey), api.ErrLong},
	}
}

// manyGone takes out that many keys of that size.
func manyGone(many, size int) []api.Change {
	var list []api.Change
	for i := range many {
		digits := strconv.Itoa(i)
		list = append(list, gone(strings.Repeat("0", size-len(digits))+digits))
	}
	return list
}

func TestCommitThatIsRefused(t *testing.T) {
	// On the small disk there isn't room for the longer ones either: that is asked later.
	for _, blocks := range []int{fewestBlocks, 3000} {
		d, b := newBook(t, blocks)
		mustCommit(t, b, set("a", "1"))
		mustCheckpoint(t, b)
		mustCommit(t, b, set("b", "2"))
		for _, r := range refusals() {
			wantNoCommit(t, r.what, d, b, r.list, r.want)
			wantLasting(t, r.what, d, b, content{"a": "1", "b": "2"})
		}
		mustCommit(t, b, set("c", "3"))
		wantLasting(t, "behind refusals", d, b, content{"a": "1", "b": "2", "c": "3"})
		takeDown(t, d)
		for _, r := range refusals() {
			wantNoCommit(t, r.what+", down", d, b, r.list, r.want)
		}
		d.Restart()
		mustCommit(t, b, set("d", "4"))
		wantLasting(t, "not over by refusals", d, b, content{"a": "1", "b": "2", "c": "3", "d": "4"})
	}
}

func TestCommitOfAsMuchAsMayBe(t *testing.T) {
	d, b := newBook(t, 3000)
	most := valueOf(1, api.MaxValue)
	lists := [][]api.Change{
		{set("a", most), set("b", most[:19998])},
		{set("a", most[1:]), set("bb", most[:19997]), gone("c")},
		{{Key: "x", Value: []byte(most), Gone: true}, set("y", most[:19998])},
		manyGone(625, maxKey),
	}
	c := content{}
	for i, list := range lists {
		mustCommit(t, b, list...)
		c = c.with(list)
		wantLasting(t, "list "+strconv.Itoa(i), d, b, c)
	}
}

// Lists of so many short keys that they fit into no unit of a log.
func TestCommitOfMoreThanAUnit(t *testing.T) {
	d, b := newBook(t, api.MostBlocks)
	mustCommit(t, b, set("pending", "1"), set("\x00\x01", "1"))
	c := content{"pending": "1", "\x00\x01": "1"}
	var list, out []api.Change
	for i := range 20000 {
		key := string([]byte{byte(i >> 8), byte(i)})
		list = append(list, set(key, ""))
		out = append(out, gone(key))
	}
	writes := d.Writes()
	mustCommit(t, b, list...)
	wantWhole := func(what string, before, after content) {
		t.Helper()
		for _, n := range []int{writes, writes + 1, (writes + d.Writes()) / 2, d.Writes() - 1, d.Writes()} {
			want := before
			if n == d.Writes() {
				want = after
			}
			wantBook(t, what, mustOpen(t, d.Cut(n)), want)
		}
	}
	wantWhole("came", c, c.with(list))
	wantLasting(t, "came", d, b, c.with(list))
	writes = d.Writes()
	mustCommit(t, b, out...)
	wantLasting(t, "went", d, b, c.with(list).with(out))
	if t.Failed() {
		t.FailNow()
	}
	// All or nothing also where it is lost.
	mustCommit(t, b, set("\x00\x05", "kept"))
	c = contentOf(b)
	d.SetFuse(40)
	if e := b.Commit(list); e != api.ErrLost {
		t.Fatalf("Commit: %v", e)
	}
	wantBook(t, "lost", b, c)
	d.Restart()
	wantBook(t, "lost, opened again", mustOpen(t, d), c)
}

// A list that is longer than the whole log goes all the same, if the tree has
// room: wholly, or, where it is lost, not at all.
func TestCommitOfMoreThanTheLog(t *testing.T) {
	c := content{"a": "1", "b": "2", "c": "3"}
	// The log's six blocks hold less.
	list := manyGone(30, maxKey)
	list = append(list, set("a", "11"), gone("b"), set("d", "4"))
	for _, checkpoints := range []int{0, 1, 2} {
		for fuse := 0; ; fuse++ {
			d, b := newBook(t, fewestBlocks)
			mustCommit(t, b, set("a", "0"), set("b", "2"))
			if checkpoints > 0 {
				mustCheckpoint(t, b)
			}
			mustCommit(t, b, set("a", "1"), set("c", "3"))
			if checkpoints > 1 {
				mustCheckpoint(t, b)
			}
			d.SetFuse(fuse)
			e := b.Commit(list)
			if e == api.OK {
				d.Restart()
				wantLasting(t, "more than the log", d, b, c.with(list))
				break
			}
			if e != api.ErrLost {
				t.Fatalf("fuse %d: %v", fuse, e)
			}
			wantBook(t, "lost", b, c)
			wantMap(t, "lost", d, b)
			d.Restart()
			wantBook(t, "lost, opened again", mustOpen(t, d), c)
		}
	}
}

func TestCommitOfNothing(t *testing.T) {
	d, b := newBook(t, 60)
	hold := func(what string) {
		t.Helper()
		for _, nothing := range [][]api.Change{nil, {}, make([]api.Change, 0, 5)} {
			wantNoCommit(t, what, d, b, nothing, api.OK)
		}
	}
	hold("new")
	mustCommit(t, b, set("a", "1"))
	hold("pending")
	mustCheckpoint(t, b)
	hold("checkpoint")
	d.SetFuse(0)
	hold("fused")
	takeDown(t, d)
	hold("down")
}

func TestGetAndKeysAsOfATree(t *testing.T) {
	texts := []string{"", "\x00", "a", "a\x00", "aa", "ab", "b", "ba", "c", "\xff", "\xff\xff", strings.Repeat("b", maxKey), strings.Repeat("b", maxKey+1)}
	d, b := newBook(t, 200)
	hold := func(what string, b *book.Book, c content) {
		t.Helper()
		wantBook(t, what, b, c)
		for _, key := range texts {
			want, is := c[key]
			if v, ok := b.Get(key); ok != is || string(v) != want {
				t.Errorf("%s: Get(%q): %q, %v", what, key, v, ok)
			}
			for _, to := range texts {
				var keys []string
				for _, k := range slices.Sorted(maps.Keys(c)) {
					if k >= key && (to == "" || k < to) {
						keys = append(keys, k)
					}
				}
				if got := b.Keys(key, to); !slices.Equal(got, keys) {
					t.Errorf("%s: Keys(%q, %q): %q; not %q", what, key, to, got, keys)
				}
			}
		}
	}
	c := content{}
	hold("new", b, c)
	for i, list := range [][]api.Change{
		{set("a", "1"), set("ab", "2"), set("b", "3")},
		{set("a\x00", ""), gone("ab"), set("\xff", "5")},
		{gone("a"), set("ab", "6"), set(strings.Repeat("b", maxKey), "7")},
		{gone("b"), set("a", "8"), set("\x00", "9")},
		{gone("\xff"), gone("a"), gone("ab"), gone("a\x00"), gone("\x00"), gone(strings.Repeat("b", maxKey))},
	} {
		mustCommit(t, b, list...)
		c = c.with(list)
		hold("pending", b, c)
		hold("pending, opened again", mustOpen(t, d), c)
		if i%2 == 1 {
			mustCheckpoint(t, b)
			hold("in the tree", b, c)
		}
	}
}

// The same lists, some in the tree and some pending, at each place of the checkpoint.
func TestCheckpointAnywhere(t *testing.T) {
	lists := [][]api.Change{
		{set("a", "1"), set("b", "2"), set("c", valueOf(1, 500))},
		{gone("a"), set("d", "4")},
		{set("a", "again"), gone("c")},
		{set("b", ""), set("c", "short")},
		{gone("d"), gone("none")},
	}
	for at := range len(lists) + 1 {
		d, b := newBook(t, 100)
		c := content{}
		for i, list := range lists {
			if i == at {
				mustCheckpoint(t, b)
			}
			mustCommit(t, b, list...)
			c = c.with(list)
			wantLasting(t, "checkpoint ahead of "+strconv.Itoa(at), d, b, c)
		}
		wantPending(t, "checkpoint ahead of "+strconv.Itoa(at), b, len(lists)-at%len(lists))
	}
}

// What is handed in is left alone and not kept, and answers are new memory.
func TestMemory(t *testing.T) {
	d, b := newBook(t, 300)
	spare := []byte("xyz spare")
	room := []api.Change{{Key: "a", Value: spare[:3]}, {Key: "b", Value: []byte(valueOf(2, 400))}, {Key: "c"}, {Key: "spare", Value: []byte("s")}}
	list := room[:3]
	// Into the log, and straight into the tree.
	for _, more := range [][]api.Change{nil, manyGone(300, maxKey)} {
		given := slices.Concat(more, list)
		before := slices.Clone(given)
		mustCommit(t, b, given[:len(given):len(given)]...)
		for i := range given {
			if given[i].Key != before[i].Key || !bytes.Equal(given[i].Value, before[i].Value) || given[i].Gone != before[i].Gone {
				t.Errorf("change %d was changed", i)
			}
		}
		c := content{"a": "xyz", "b": valueOf(2, 400), "c": ""}
		copy(spare, "###")
		clear(room[1].Value)
		wantBook(t, "handed in, then changed", b, c)
		for _, key := range b.Keys("", "") {
			v, _ := b.Get(key)
			for i := range v[:cap(v)] {
				v[:cap(v)][i] = '#'
			}
		}
		keys := b.Keys("", "")
		for i := range keys {
			keys[i] = "#"
		}
		m := b.Map()
		for _, blocks := range [][]int{m.Super, m.Log, m.Used, m.Free} {
			for i := range blocks {
				blocks[i] = -1
			}
		}
		wantLasting(t, "answers changed", d, b, c)
		wantMap(t, "answers changed", d, b)
		mustCheckpoint(t, b)
		wantLasting(t, "answers changed, checkpoint", d, b, c)
		copy(spare, "xyz")
		copy(room[1].Value, valueOf(2, 400))
	}
	if room[3].Key != "spare" || string(room[3].Value) != "s" || string(spare) != "xyz spare" {
		t.Error("spare room was changed")
	}
}

// P10.2: room. P10.3: a checkpoint has room at any time.

// fill commits lists till one is refused, and tells what the book should have then.
func fill(t *testing.T, d *disk.Disk, b *book.Book, next func(i int) []api.Change) content {
	t.Helper()
	c := contentOf(b)
	for i := range 100000 {
		list := next(i)
		c2 := c.with(list)
		if e := b.Commit(list); e == api.ErrFull {
			wantLasting(t, "full", d, b, c)
			return c
		} else if e != api.OK {
			t.Fatalf("list %d: %v", i, e)
		}
		c = c2
	}
	t.Fatal("never full")
	return nil
}

// fillings are ways to fill a book.
func fillings() map[string]func(i int) []api.Change {
	return map[string]func(i int) []api.Change{
		"short":   func(i int) []api.Change { return sets(i, 1, 3) },
		"falling": func(i int) []api.Change { return sets(90000-i, 1, 100) },
		"mixed":   func(i int) []api.Change { return sets(i*7919%90001, 1+i%5, i*37%500) },
		"long":    func(i int) []api.Change { return sets(i, 1, 3000) },
		"many":    func(i int) []api.Change { return sets(i*100, 100, 20) },
		"growing": func(i int) []api.Change {
			return []api.Change{set("one", valueOf(i, min(i*300, api.MaxValue))), set("n"+strconv.Itoa(i), "")}
		},
	}
}

func TestFullAndEmptyAgain(t *testing.T) {
	for what, next := range fillings() {
		for _, blocks := range []int{24, 25, 41, 90, 200, 700} {
			d, b := newBook(t, blocks)
			for range 2 {
				c := fill(t, d, b, next)
				wantMap(t, what, d, b)
				// Room is asked ahead of the power.
				huge := sets(200000, 200, 190)
				if blocks < 200 {
					d.SetFuse(0)
					wantNoCommit(t, what+", full and fused", d, b, huge, api.ErrFull)
					d.SetFuse(-1)
				}
				mustCheckpoint(t, b)
				wantLasting(t, what+", full", d, b, c)
				// What takes no more room goes; in one list with others too.
				keys := slices.Sorted(maps.Keys(c))
				for i, key := range keys {
					var list []api.Change
					if i%3 == 0 {
						list = []api.Change{set(key, c[key])}
					} else {
						list = []api.Change{gone(key), set("+", valueOf(i, min(len(c[key]), 1)))}
					}
					mustCommit(t, b, list...)
					c = c.with(list)
				}
				for _, key := range b.Keys("", "") {
					mustCommit(t, b, gone(key))
				}
				wantLasting(t, what+", empty", d, b, content{})
			}
			if t.Failed() {
				t.Fatalf("%s, %d blocks", what, blocks)
			}
		}
	}
}

func TestOneKeyAgainAndAgain(t *testing.T) {
	for _, blocks := range []int{24, 50, 160} {
		d, b := newBook(t, blocks)
		for i := range 3000 {
			mustCommit(t, b, set("a", valueOf(i, i%60)))
			// If it needs a checkpoint, that comes ahead of it.
			if b.Pending() < 1 || b.Pending() > blocks/4 {
				t.Fatalf("%d pending", b.Pending())
			}
		}
		wantLasting(t, "again and again", d, b, content{"a": valueOf(2999, 2999%60)})
	}
}

// P10.3: Checkpoint, Pending.

func TestPending(t *testing.T) {
	d, b := newBook(t, 200)
	wantPending(t, "new", b, 0)
	for i := range 10 {
		mustCommit(t, b, set("k", strconv.Itoa(i)), gone("none"))
		wantPending(t, "committed", b, i+1)
		wantPending(t, "opened again", mustOpen(t, d), i+1)
	}
	mustCheckpoint(t, b)
	wantPending(t, "checkpoint", b, 0)
	wantPending(t, "checkpoint, opened again", mustOpen(t, d), 0)
	mustCommit(t, b, gone("k"))
	b = mustOpen(t, d)
	mustCommit(t, b, gone("k"))
	wantPending(t, "opened again in between", b, 2)
}

// Behind a checkpoint the log's blocks aren't needed.
func TestCheckpointLeavesTheLogEmpty(t *testing.T) {
	d, b := newBook(t, 200)
	c := content{}
	for i, list := range [][]api.Change{
		{set("a", "1"), set("b", valueOf(1, 900))},
		{gone("a"), set("c", "3")},
		{gone("none")},
		{gone("b"), gone("c")},
		{set("a", "again")},
	} {
		mustCommit(t, b, list...)
		c = c.with(list)
		mustCheckpoint(t, b)
		wantLasting(t, "checkpoint", d, b, c)
		wiped := copyWith(t, d, b.Map().Log...)
		again := mustOpen(t, wiped)
		wantLasting(t, "a wiped log, list "+strconv.Itoa(i), wiped, again, c)
		wantPending(t, "a wiped log", again, 0)
		mustCommit(t, again, set("x", "y"))
		wantLasting(t, "a wiped log, list "+strconv.Itoa(i), wiped, again, c.with([]api.Change{set("x", "y")}))
	}
}

// What older lists have left in the log means nothing.
func TestNoListComesBack(t *testing.T) {
	d, b := newBook(t, 100)
	for i := range 20 {
		mustCommit(t, b, set("old"+strconv.Itoa(i), "1"))
	}
	for i := range 20 {
		mustCommit(t, b, gone("old"+strconv.Itoa(i)))
	}
	mustCheckpoint(t, b)
	wantLasting(t, "all gone", d, b, content{})
	mustCommit(t, b, set("new", "1"))
	wantLasting(t, "a new one", d, b, content{"new": "1"})
}

func TestCheckpointThatIsLost(t *testing.T) {
	for fuse := 0; ; fuse++ {
		d, b := newBook(t, 200)
		mustCommit(t, b, sets(0, 20, 50)...)
		mustCheckpoint(t, b)
		mustCommit(t, b, set("long", valueOf(1, 2000)), gone("k100003"))
		mustCommit(t, b, sets(10, 20, 60)...)
		c, m := contentOf(b), b.Map()
		d.SetFuse(fuse)
		if e := b.Checkpoint(); e == api.OK {
			if fuse < 5 {
				t.Errorf("only %d writes", fuse)
			}
			return
		} else if e != api.ErrLost {
			t.Fatalf("fuse %d: %v", fuse, e)
		}
		for range 2 {
			wantBook(t, "lost", b, c)
			wantPending(t, "lost", b, 2)
			wantMap(t, "lost", d, b)
			if !sameMap(b.Map(), m) {
				t.Errorf("fuse %d: another Map", fuse)
			}
			if e := b.Checkpoint(); e != api.ErrLost {
				t.Errorf("fuse %d: over: %v", fuse, e)
			}
			d.Restart()
		}
		wantLasting(t, "lost", d, b, c)
		again := mustOpen(t, d)
		mustCheckpoint(t, again)
		wantLasting(t, "once more", d, again, c)
	}
}

// P10.4: over.

func TestOver(t *testing.T) {
	lists := [][]api.Change{nil, {}, {set("b", "2")}, {gone("a")}, {set("", "")}, {set("x", valueOf(1, api.MaxValue+1))}, sets(0, 200, 190)}
	for _, how := range []func(b *book.Book) api.Errno{
		func(b *book.Book) api.Errno { return b.Commit([]api.Change{set("a", "lost"), set("c", "lost")}) },
		func(b *book.Book) api.Errno { return b.Checkpoint() },
	} {
		d, b := newBook(t, 60)
		mustCommit(t, b, set("a", "1"))
		d.SetFuse(0)
		if e := how(b); e != api.ErrLost {
			t.Fatalf("%v; not lost", e)
		}
		for range 2 {
			for _, list := range lists {
				wantNoCommit(t, "over", d, b, list, api.ErrLost)
			}
			if e := b.Checkpoint(); e != api.ErrLost {
				t.Errorf("over: Checkpoint: %v", e)
			}
			wantBook(t, "over", b, content{"a": "1"})
			wantMap(t, "over", d, b)
			// It is over for good.
			d.Restart()
		}
		b = mustOpen(t, d)
		mustCommit(t, b, set("b", "2"))
		wantLasting(t, "opened again", d, b, content{"a": "1", "b": "2"})
	}
}

// A list that finds no room in the log is laid behind a checkpoint. If it is lost there,
// the Map is as ahead of the call too.
func TestMapOfAListThatIsLostBehindItsCheckpoint(t *testing.T) {
	d, b := newBook(t, 60)
	mustCommit(t, b, sets(0, 5, 100)...)
	mustCheckpoint(t, b)
	for i := 0; ; i++ {
		pending := b.Pending()
		before := d.Cut(d.Writes())
		list := sets(i%9, 2, 150+i)
		mustCommit(t, b, list...)
		if b.Pending() > pending {
			continue
		}
		// That one has made a checkpoint: here it is lost at its last write.
		again := mustOpen(t, before)
		c, m := contentOf(again), again.Map()
		before.SetFuse(d.Writes() - before.Writes() - 1)
		if e := again.Commit(list); e != api.ErrLost {
			t.Fatalf("%v; not lost", e)
		}
		wantBook(t, "lost", again, c)
		if !sameMap(again.Map(), m) {
			t.Error("lost: another Map")
		}
		before.Restart()
		wantBook(t, "opened again", mustOpen(t, before), c)
		return
	}
}

// A book that was opened ahead of the loss, and has done nothing since, isn't over.
func TestDownAheadOfTheCall(t *testing.T) {
	d, b := newBook(t, 60)
	mustCommit(t, b, set("a", "1"))
	takeDown(t, d)
	wantBook(t, "down", b, content{"a": "1"})
	d.Restart()
	mustCommit(t, b, set("b", "2"))
	takeDown(t, d)
	wantNoCommit(t, "down", d, b, []api.Change{set("c", "3")}, api.ErrLost)
	d.Restart()
	wantNoCommit(t, "restarted", d, b, []api.Change{set("c", "3")}, api.ErrLost)
	wantLasting(t, "restarted", d, b, content{"a": "1", "b": "2"})
}

// P10.5: Map.

// All that isn't needed may be written over, and nothing that is used.
func TestMapTellsWhatIsNeeded(t *testing.T) {
	d, b := newBook(t, 500)
	for i := range 12 {
		mustCommit(t, b, sets(i*3, 4, i*40)...)
		mustCommit(t, b, gone("k"+strconv.Itoa(100000+i)), set("long", valueOf(i, i*150)))
		if i%3 == 1 {
			mustCheckpoint(t, b)
		}
		wantMap(t, "map", d, b)
		c, m := contentOf(b), b.Map()
		wiped := copyWith(t, d, m.Free...)
		wantLasting(t, "free blocks written over", wiped, mustOpen(t, wiped), c)
		for _, i := range m.Used {
			if x, e := book.Open(copyWith(t, d, i)); e == api.OK {
				t.Errorf("the used block %d isn't needed: %d keys", i, len(x.Keys("", "")))
			}
		}
		if t.Failed() {
			t.FailNow()
		}
	}
	if len(b.Map().Used) < 5 {
		t.Errorf("used are only %v", b.Map().Used)
	}
}

// A tree that shrinks gives its blocks back.
func TestMapOfWhatShrinks(t *testing.T) {
	d, b := newBook(t, 400)
	mustCommit(t, b, sets(0, 20, 500)...)
	if len(b.Map().Used) != 0 {
		t.Errorf("used ahead of the checkpoint: %v", b.Map().Used)
	}
	mustCheckpoint(t, b)
	if used := len(b.Map().Used); used < 60 || used > 90 {
		t.Errorf("%d used for 20 values of 500 bytes", used)
	}
	for i := range 20 {
		mustCommit(t, b, gone("k"+strconv.Itoa(100000+i)))
	}
	mustCheckpoint(t, b)
	wantMap(t, "shrunk", d, b)
	if len(b.Map().Used) != 0 {
		t.Errorf("used without keys: %v", b.Map().Used)
	}
}

// R1: a nil book.

func TestNilBook(t *testing.T) {
	var b *book.Book
	if v, ok := b.Get("a"); v != nil || ok {
		t.Error("Get")
	}
	if len(b.Keys("", "")) != 0 || b.Pending() != 0 || !sameMap(b.Map(), book.Map{}) {
		t.Error("Keys, Pending, Map")
	}
	if b.Commit(nil) != api.ErrArg || b.Commit([]api.Change{set("a", "1")}) != api.ErrArg || b.Checkpoint() != api.ErrArg {
		t.Error("Commit, Checkpoint")
	}
	// One that nobody has opened has no room.
	b = &book.Book{}
	b.Get("a")
	b.Keys("", "")
	b.Map()
	b.Checkpoint()
	if b.Commit([]api.Change{set("a", "1")}) == api.OK || b.Commit([]api.Change{gone("a")}) == api.OK {
		t.Error("the zero book")
	}
}
