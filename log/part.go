package log

import (
	"reeve/sum"
)

const (
	// kind tells the log's sealed blocks from those that others seal.
	kind = 2
	// partSize is how many bytes of a unit a block has at most; its head is the rest of a sealed block's payload.
	partSize = 233
	// Behind the epoch a byte tells whether it is the unit's last part.
	epochSize = 8
	headSize  = epochSize + 1
)

// part is what one block has of a unit.
type part struct {
	epoch uint64
	last  bool
	bytes []byte
}

// blocksFor tells how many blocks a unit of that many bytes takes.
func blocksFor(size int) int { return (size + partSize - 1) / partSize }

// block is the part as a sealed block for its place.
func (p part) block(place uint32) []byte {
	payload := make([]byte, headSize, headSize+len(p.bytes))
	for i := range epochSize {
		payload[i] = byte(p.epoch >> (8 * (epochSize - 1 - i)))
	}
	if p.last {
		payload[epochSize] = 1
	}
	// A head and the longest part just fit, so nothing is too long to seal.
	block, _ := sum.Seal(kind, place, append(payload, p.bytes...))
	return block
}

// partIn answers the part that lies in the block of that place; one without bytes, if none does.
func partIn(place uint32, block []byte) part {
	payload, ok := sum.Open(kind, place, block)
	if !ok || len(payload) <= headSize {
		return part{}
	}
	var found part
	for _, b := range payload[:epochSize] {
		found.epoch = found.epoch<<8 | uint64(b)
	}
	found.last = payload[epochSize] == 1
	found.bytes = payload[headSize:]
	return found
}
