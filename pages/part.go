package pages

import (
	"reeve/api"
	"reeve/sum"
)

const (
	// kind tells the pages' sealed blocks from those that others seal.
	kind = 3
	// partSize is how many bytes of a text a block has at most; its head is the rest of a sealed block's payload.
	partSize = 238
	headSize = 4
	// turnBit lies above every number of bytes that a text can have.
	turnBit = 1 << 15
)

// part is what one block has of a text.
type part struct {
	// turn tells the texts of one name apart, of which one is written over the other.
	turn bool
	// left is how many of the text's bytes lie in this part and behind it.
	left int
	// next is the block of the part behind this one; of the last part it means nothing.
	next  int
	bytes []byte
}

// blocksFor tells how many blocks a text of that many bytes takes.
func blocksFor(size int) int { return max((size+partSize-1)/partSize, 1) }

// isLast tells whether no part comes behind this one.
func (p part) isLast() bool { return p.left <= partSize }

// follows tells whether it is the part behind that one, of the same text.
func (p part) follows(last part) bool {
	return p.turn == last.turn && p.left == last.left-partSize
}

// block is the part of the text of that name as the sealed block at.
func (p part) block(name, at int) []byte {
	left := p.left
	if p.turn {
		left |= turnBit
	}
	payload := make([]byte, 0, headSize+len(p.bytes))
	payload = append(payload, byte(left>>8), byte(left), byte(p.next>>8), byte(p.next))
	// A head and the longest part just fit, so nothing is too long to seal.
	block, _ := sum.Seal(kind, place(name, at), append(payload, p.bytes...))
	return block
}

// partIn answers the part of a text of that name that lies in the block at; false, if none does.
func partIn(name, at int, block []byte) (part, bool) {
	payload, ok := sum.Open(kind, place(name, at), block)
	if !ok || len(payload) < headSize {
		return part{}, false
	}
	left := int(payload[0])<<8 | int(payload[1])
	found := part{
		turn:  left&turnBit != 0,
		left:  left &^ turnBit,
		next:  int(payload[2])<<8 | int(payload[3]),
		bytes: payload[headSize:],
	}
	if found.left > api.MaxValue || len(found.bytes) != min(found.left, partSize) {
		return part{}, false
	}
	return found, true
}

// place is what a part is sealed for: its text's name, and the block in which
// it lies. So a text's first part alone is sealed for its own block twice, and
// none is a part of two texts.
func place(name, at int) uint32 {
	// A disk has at most 2^16 blocks, so both fit.
	return uint32(name)<<16 | uint32(at)
}
