// Package codec is layer 1: numbers and texts as bytes. See shared/doc/01-codec.md.
package codec

import (
	"bytes"
	"math/bits"
)

// A number up to topShort is its own byte. The bytes above it are free to tell
// how many bytes of a longer number follow: topShort + k says that k do.
const topShort = 247

// Writer lays numbers, integers and texts one behind the other. The zero Writer has laid none.
type Writer struct {
	laid []byte
}

// NewWriter makes a Writer that has laid nothing.
func NewWriter() *Writer { return &Writer{} }

// Number lays a number's bytes.
func (w *Writer) Number(n uint64) {
	if w == nil {
		return
	}
	if n <= topShort {
		w.laid = append(w.laid, byte(n))
		return
	}
	k := (bits.Len64(n) + 7) / 8
	w.laid = append(w.laid, byte(topShort+k))
	for i := k - 1; i >= 0; i-- {
		w.laid = append(w.laid, byte(n>>(8*i)))
	}
}

// Int lays an integer's bytes.
func (w *Writer) Int(n int64) { w.Number(fold(n)) }

// Text lays a text's bytes.
func (w *Writer) Text(s string) {
	if w == nil {
		return
	}
	w.Number(uint64(len(s)))
	w.laid = append(w.laid, s...)
}

// Bytes tells all that was laid, in memory of its own.
func (w *Writer) Bytes() []byte {
	if w == nil {
		return nil
	}
	return bytes.Clone(w.laid)
}

// Reader reads numbers, integers and texts one behind the other. It is bad
// once its bytes did not begin with what was asked for.
type Reader struct {
	rest []byte
	bad  bool
}

// NewReader makes a Reader of these bytes. It keeps a copy, since the caller may change them later.
func NewReader(b []byte) *Reader { return &Reader{rest: bytes.Clone(b)} }

// Number reads a number, or answers 0 and is bad.
func (r *Reader) Number() uint64 {
	if r == nil {
		return 0
	}
	n, size := firstNumber(r.rest)
	if size == 0 {
		r.spoil()
		return 0
	}
	r.rest = r.rest[size:]
	return n
}

// Int reads an integer, or answers 0 and is bad.
func (r *Reader) Int() int64 { return unfold(r.Number()) }

// Text reads a text, or answers "" and is bad.
func (r *Reader) Text() string {
	if r == nil {
		return ""
	}
	size := r.Number()
	// The length is held against what is left as a number: as an int it might be below 0.
	if size > uint64(len(r.rest)) {
		r.spoil()
		return ""
	}
	s := string(r.rest[:size])
	r.rest = r.rest[size:]
	return s
}

// Left tells how many bytes are left; none, if the reader is bad.
func (r *Reader) Left() int {
	if r == nil {
		return 0
	}
	return len(r.rest)
}

// Bad tells whether the reader is bad.
func (r *Reader) Bad() bool { return r != nil && r.bad }

// End tells whether all was read, and nothing was bad.
func (r *Reader) End() bool { return r != nil && !r.bad && len(r.rest) == 0 }

// spoil makes the reader bad. It drops the bytes too, so that every later
// read finds nothing and answers zero, with no question of its own.
func (r *Reader) spoil() {
	r.rest = nil
	r.bad = true
}

// firstNumber answers the number that b begins with, and how many bytes it has; 0 bytes, if b begins with none.
func firstNumber(b []byte) (uint64, int) {
	if len(b) == 0 {
		return 0, 0
	}
	if b[0] <= topShort {
		return uint64(b[0]), 1
	}
	size := 1 + int(b[0]) - topShort
	if len(b) < size || b[1] == 0 {
		return 0, 0
	}
	n := uint64(0)
	for _, x := range b[1:size] {
		n = n<<8 | uint64(x)
	}
	// A number that is its own byte has no second form.
	if n <= topShort {
		return 0, 0
	}
	return n, size
}

// fold gives integers near 0 small numbers, whatever their sign: 2n, or -2n - 1 below 0.
func fold(n int64) uint64 {
	if n < 0 {
		return ^(uint64(n) << 1)
	}
	return uint64(n) << 1
}

// unfold is fold's way back.
func unfold(u uint64) int64 {
	if u%2 == 1 {
		return ^int64(u >> 1)
	}
	return int64(u >> 1)
}
