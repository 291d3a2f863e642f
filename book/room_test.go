package book

import (
	"math/rand"
	"strconv"
	"strings"
	"testing"

	"reeve/api"
	"reeve/disk"
)

// Behind a checkpoint the tree takes no more blocks than was reckoned.
func wantReckoned(t *testing.T, what string, b *Book) {
	t.Helper()
	if b.weight != b.weightOfAll() {
		t.Errorf("%s: the weight is %d; not %d", what, b.weight, b.weightOfAll())
	}
	if e := b.Checkpoint(); e != api.OK {
		t.Fatalf("%s: Checkpoint: %v", what, e)
	}
	used, most := len(b.Map().Used), blocksFor(b.weight)
	if used > most || most > b.plan.room() {
		t.Errorf("%s: %d blocks used, %d reckoned, %d at most", what, used, most, b.plan.room())
	}
}

// Trees that grow key by key, and are thinned, so that their nodes get as empty as may be.
func TestTreesTakeNoMoreThanReckoned(t *testing.T) {
	for _, size := range []int{0, 20, 60, 110, 118, 160, 169, 231, 239, 240, 477} {
		for _, keySize := range []int{6, maxKey} {
			for _, left := range []int{2, 3, 7, 24} {
				b, _ := Open(disk.New(6000))
				key := func(i int) string {
					digits := strconv.Itoa(10000 + i)
					return strings.Repeat("k", keySize-len(digits)) + digits
				}
				const many = 500
				for i := range many {
					if e := b.Commit([]api.Change{{Key: key(i), Value: make([]byte, size)}}); e != api.OK {
						t.Fatal(e)
					}
					if i%100 == 99 {
						wantReckoned(t, "grown", b)
					}
				}
				// Of each run of keys only the first stays.
				for i := range many {
					if i%left != 0 {
						b.Commit([]api.Change{{Key: key(i), Gone: true}})
					}
					if i%100 == 99 {
						wantReckoned(t, "thinned", b)
					}
				}
				if t.Failed() {
					t.Fatalf("values of %d bytes, keys of %d, one of %d left", size, keySize, left)
				}
			}
		}
	}
}

func TestRandomTreesTakeNoMoreThanReckoned(t *testing.T) {
	for seed := range 40 {
		r := rand.New(rand.NewSource(int64(seed)))
		b, _ := Open(disk.New(24 + r.Intn(3000)))
		keys, most := 1+r.Intn(2000), 1+r.Intn(600)
		for range 60 {
			var list []api.Change
			share := r.Intn(5)
			for i := range keys {
				if r.Intn(40) > 0 {
					continue
				}
				c := api.Change{Key: strconv.Itoa(i) + strings.Repeat("x", i%60), Gone: r.Intn(4) < share}
				if !c.Gone {
					c.Value = make([]byte, r.Intn(most))
				}
				list = append(list, c)
			}
			if e := b.Commit(list); e != api.OK && e != api.ErrFull && e != api.ErrLong {
				t.Fatalf("seed %d: %v", seed, e)
			}
			wantReckoned(t, "random", b)
		}
		if t.Failed() {
			t.Fatalf("seed %d", seed)
		}
	}
}

// P10.6 by numbers: on no disk the keys and values that are promised room are
// reckoned to be more than may be.
func TestPromisedRoomIsReckonedSo(t *testing.T) {
	for blocks := fewestBlocks; blocks <= api.MostBlocks; blocks += 1 + blocks/50 {
		room := planFor(blocks).room()
		for many := 1; 4000*many < 100*blocks; many += 1 + many/9 {
			bytes := (100*blocks - 1 - 4000*many) / 4
			for _, size := range []int{0, 1, 100, 239, 240, 476, 477, 715, 5000, api.MaxValue} {
				// As many of them as there are bytes for have values of that size, the others none.
				if bytes < many {
					continue
				}
				full := min(many, (bytes-many)/max(size, 1))
				weight := full*weightOf("k", make([]byte, size)) + (many-full)*weightOf("k", nil)
				if blocksFor(weight) > room {
					t.Fatalf("%d blocks: %d keys, %d with %d bytes", blocks, many, full, size)
				}
			}
			// All bytes in keys.
			if weight := many*keyHead + bytes; bytes <= many*maxKey && blocksFor(weight) > room {
				t.Fatalf("%d blocks: %d keys of %d bytes", blocks, many, bytes)
			}
		}
	}
}

func TestPlans(t *testing.T) {
	for blocks := fewestBlocks; blocks <= api.MostBlocks; blocks += 1 + blocks/50 {
		p := planFor(blocks)
		if p.super != (area{0, 2}) || p.log != (area{2, blocks / 4}) || p.pages.from != 2+blocks/4 || p.pages.end() != blocks {
			t.Errorf("%d blocks: %v", blocks, p)
		}
	}
}

// A leaf full of one item beside one of hardly any bytes, all along.
func TestLeavesThatAreFullAndEmptyInTurn(t *testing.T) {
	b, _ := Open(disk.New(6000))
	for i := range 600 {
		c := api.Change{Key: strconv.Itoa(1000 + i)}
		if i%2 == 0 {
			c.Value = make([]byte, 229)
		}
		if e := b.Commit([]api.Change{c}); e != api.OK {
			t.Fatal(e)
		}
	}
	wantReckoned(t, "in turn", b)
	if used := len(b.Map().Used); used < 500 {
		t.Errorf("only %d blocks used", used)
	}
}
