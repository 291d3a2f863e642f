package pages

import (
	"bytes"
	"testing"

	"reeve/api"
	"reeve/disk"
	"reeve/sum"
)

// A part comes back whole from its block, and for no other name or block.
func TestPartsAndTheirBlocks(t *testing.T) {
	for _, left := range []int{0, 1, 237, 238, 239, 300, 19999, 20000} {
		for _, turn := range []bool{false, true} {
			for _, next := range []int{0, 1, 255, 256, api.MostBlocks - 1} {
				p := part{turn: turn, left: left, next: next, bytes: bytes.Repeat([]byte{7}, min(left, partSize))}
				block := p.block(2, 3)
				got, ok := partIn(2, 3, block)
				if !ok || got.turn != turn || got.left != left || got.next != next || !bytes.Equal(got.bytes, p.bytes) {
					t.Errorf("%v, %d left, next %d: %v, %d left, next %d, %v", turn, left, next, got.turn, got.left, got.next, ok)
				}
				for _, other := range [][2]int{{0, 0}, {3, 2}, {2, 2}, {3, 3}, {2, 4}, {1, 3}} {
					if _, ok := partIn(other[0], other[1], block); ok {
						t.Errorf("a part for the name %d in the block %d", other[0], other[1])
					}
				}
			}
		}
	}
}

// sealed is a payload as a sealed block for the place of that name and block.
func sealed(t *testing.T, kind byte, name, at int, payload []byte) []byte {
	t.Helper()
	block, errno := sum.Seal(kind, place(name, at), payload)
	if errno != api.OK {
		t.Fatal(errno)
	}
	return block
}

// Blocks that are sealed for a text's place, but have another form, are no parts.
func TestSealedBlocksThatAreNoParts(t *testing.T) {
	for size := range headSize {
		if _, ok := partIn(5, 5, sealed(t, kind, 5, 5, make([]byte, size))); ok {
			t.Errorf("a payload of %d bytes", size)
		}
	}
	for other := range 256 {
		if _, ok := partIn(5, 5, sealed(t, byte(other), 5, 5, make([]byte, headSize))); ok != (other == kind) {
			t.Errorf("kind %d: %v", other, ok)
		}
	}
	for _, left := range []int{0, 1, 100, 237, 238, 239, 500, 20000, 20001, 32767} {
		for _, size := range []int{0, 1, 2, 99, 100, 101, 236, 237, 238} {
			head := []byte{byte(left >> 8), byte(left), 0, 0}
			_, ok := partIn(5, 5, sealed(t, kind, 5, 5, append(head, make([]byte, size)...)))
			if want := left <= 20000 && size == min(left, 238); ok != want {
				t.Errorf("%d left, %d bytes: %v", left, size, ok)
			}
		}
	}
}

// A place tells the name and the block, up to the highest of both.
func TestPlaces(t *testing.T) {
	list := []int{0, 1, 2, 255, 256, api.MostBlocks - 1}
	for _, name := range list {
		for _, at := range list {
			if got := place(name, at); got>>16 != uint32(name) || got&0xffff != uint32(at) {
				t.Errorf("name %d, block %d: %x", name, at, got)
			}
		}
	}
}

// made is a full part of a text that has that many bytes from it on.
func made(left, next int) part {
	return part{left: left, next: next, bytes: make([]byte, min(left, partSize))}
}

// Chains that nobody has put: they end, and are no texts.
func TestChainsThatAreWrong(t *testing.T) {
	chains := map[string][]part{
		"round in itself":           {made(500, 2), made(262, 3), made(24, 0)},
		"back to the first":         {made(500, 3), made(262, 2), made(24, 0)},
		"round behind the first":    {made(900, 3), made(662, 4), made(424, 3)},
		"too few bytes behind it":   {made(500, 3), made(261, 4), made(23, 0)},
		"too many bytes behind it":  {made(500, 3), made(263, 4), made(25, 0)},
		"as many bytes behind it":   {made(500, 3), made(500, 4), made(262, 5), made(24, 0)},
		"ahead of the area":         {made(500, 1), made(262, 3), made(24, 0)},
		"behind the area":           {made(500, 8), made(262, 3), made(24, 0)},
		"a block that is no part":   {made(500, 3), made(262, 6), made(24, 0)},
		"the part of another turn":  {made(500, 3), {turn: true, left: 262, next: 4, bytes: make([]byte, 238)}, made(24, 0)},
		"the last of another turn":  {made(500, 3), made(262, 4), {turn: true, left: 24, bytes: make([]byte, 24)}},
		"the first of another turn": {{turn: true, left: 500, next: 3, bytes: make([]byte, 238)}, made(262, 4), made(24, 0)},
	}
	for what, parts := range chains {
		d := disk.New(10)
		for n, p := range parts {
			if errno := d.Write(2+n, p.block(2, 2+n)); errno != api.OK {
				t.Fatal(errno)
			}
		}
		if p, errno := Open(d, 2, 6, []int{2}); p != nil || errno != api.ErrForm {
			t.Errorf("%s: %v, %v", what, p, errno)
		}
	}
}

// A text of one name writes over the other with the other turn, also if some were lost in between.
func TestTurns(t *testing.T) {
	d := disk.New(4)
	text := bytes.Repeat([]byte("a"), 500)
	turn := false
	for range 4 {
		p, errno := Open(d, 1, 3, nil)
		if errno != api.OK {
			t.Fatal(errno)
		}
		for range 2 {
			d.SetFuse(2)
			if _, errno := p.Put(text); errno != api.ErrLost {
				t.Fatal(errno)
			}
			d.Restart()
		}
		name, errno := p.Put(text)
		if errno != api.OK {
			t.Fatal(errno)
		}
		block, errno := d.Read(name)
		if errno != api.OK {
			t.Fatal(errno)
		}
		found, ok := partIn(name, name, block)
		if !ok || found.turn == turn {
			t.Errorf("turn %v behind %v, %v", found.turn, turn, ok)
		}
		turn = found.turn
	}
}
