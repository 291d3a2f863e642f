package log

import (
	"bytes"
	"math"
	"testing"

	"reeve/api"
	"reeve/disk"
	"reeve/sum"
)

// A part comes back whole from its block, and from no other place's.
func TestPartsAndTheirBlocks(t *testing.T) {
	for _, epoch := range []uint64{0, 1, 0x0102030405060708, math.MaxUint64} {
		for _, size := range []int{1, 2, 232, 233} {
			for _, last := range []bool{false, true} {
				p := part{epoch: epoch, last: last, bytes: bytes.Repeat([]byte{7}, size)}
				block := p.block(0x00020003)
				got := partIn(0x00020003, block)
				if got.epoch != epoch || got.last != last || !bytes.Equal(got.bytes, p.bytes) {
					t.Errorf("%d, %d bytes, %v: %d, %d bytes, %v", epoch, size, last, got.epoch, len(got.bytes), got.last)
				}
				for _, place := range []uint32{0, 3, 0x00020002, 0x00030003} {
					if got := partIn(place, block); len(got.bytes) != 0 {
						t.Errorf("a part of the place %x", place)
					}
				}
			}
		}
	}
}

// Blocks that are sealed for the log's places, but by others, are no parts.
func TestSealedBlocksThatAreNoParts(t *testing.T) {
	seal := func(kind byte, size int) []byte {
		block, errno := sum.Seal(kind, 5, make([]byte, size))
		if errno != api.OK {
			t.Fatal(errno)
		}
		return block
	}
	for size := range headSize + 1 {
		if got := partIn(5, seal(kind, size)); len(got.bytes) != 0 || got.last || got.epoch != 0 {
			t.Errorf("a payload of %d bytes: %v", size, got)
		}
	}
	for other := range 256 {
		if got := partIn(5, seal(byte(other), headSize+1)); len(got.bytes) != 0 && other != kind {
			t.Errorf("a part of kind %d", other)
		}
	}
}

// A place tells where the unit begins and which block it is, up to the highest of both.
func TestPlaces(t *testing.T) {
	for _, used := range []int{0, 1, 2, 255, 256, api.MostBlocks - 1} {
		for _, from := range []int{0, 1, 2, 255, 256} {
			for at := used; at < min(used+3, api.MostBlocks-from); at++ {
				l := &Log{from: from, count: api.MostBlocks - from, used: used}
				if place := l.place(at); place>>16 != uint32(used) || place&0xffff != uint32(from+at) {
					t.Errorf("used %d, block %d: %x", used, from+at, place)
				}
			}
		}
	}
}

// A block in the midst of a unit that went wrong ends the log ahead of that unit.
func TestABlockThatWentWrong(t *testing.T) {
	units := [][]byte{[]byte("a"), bytes.Repeat([]byte("b"), 3*partSize), []byte("c")}
	whole := []int{0, 1, 1, 1, 2}
	for i, want := range whole {
		d := disk.New(6)
		l, errno := Open(d, 0, 6, 1)
		if errno != api.OK {
			t.Fatal(errno)
		}
		for _, u := range units {
			if errno := l.Append(u); errno != api.OK {
				t.Fatal(errno)
			}
		}
		block, _ := d.Read(i)
		block[200] ^= 1
		d.Write(i, block)
		again, errno := Open(d, 0, 6, 1)
		if errno != api.OK || len(again.Units()) != want {
			t.Errorf("block %d: %d units, %v; not %d", i, len(again.Units()), errno, want)
		}
	}
}
