package tree

import (
	"reeve/sum"
)

// A text's first byte tells what it is. So no value, whatever its bytes are, is
// taken for a root, nor is a node in the midst of a tree.
const (
	valueKind byte = 1 + iota
	rootKind
	innerKind
)

const (
	// partSize is how many bytes of a text lie in one block of the pages.
	partSize = 238
	// A node has just one block; its kind and its level come first.
	headSize = 2
	nodeRoom = partSize - headSize
	// A text's name and its sum take as many bytes whatever they are: so it is
	// known how long a node is ahead of the names of what it tells.
	nameSize = 2
	sumSize  = 8
	refSize  = nameSize + sumSize
	// itemHead has the lengths of a key, in one byte, and of its value, in two.
	itemHead = 3
	// A leaf has of a long value the first byte, in whose place its text has
	// the kind, and the text's ref.
	longBody = 1 + refSize
)

// isLong tells whether a value has a text of its own: if it fits into no leaf, not even alone.
func isLong(keySize, valueSize int) bool { return itemHead+keySize+valueSize > nodeRoom }

// itemSize is how many bytes an item takes in a leaf.
func itemSize(keySize, valueSize int) int {
	if isLong(keySize, valueSize) {
		return itemHead + keySize + longBody
	}
	return itemHead + keySize + valueSize
}

// isLong tells whether the value has a text of its own.
func (i *item) isLong() bool { return isLong(len(i.key), len(i.value)) }

// size is how many bytes the item takes in a leaf.
func (i *item) size() int { return itemSize(len(i.key), len(i.value)) }

// size is how many bytes the node takes in a branch.
func (n *node) size() int { return refSize }

// filled is how many bytes there are in the node, behind its head.
func (n *node) filled() int {
	filled := len(n.under) * refSize
	for _, i := range n.items {
		filled += i.size()
	}
	return filled
}

// refTo is the ref of a text of that name.
func refTo(name int, text []byte) ref { return ref{name: name, sum: sum.Sum(text)} }

// text is the node's, as one of that kind. All that it needs has been put.
func (n *node) text(kind byte) []byte {
	text := append(make([]byte, 0, partSize), kind, byte(n.level))
	for _, u := range n.under {
		text = appendRef(text, u.ref)
	}
	for _, i := range n.items {
		text = i.appendTo(text)
	}
	return text
}

// appendTo lays the item behind what a leaf's text has.
func (i *item) appendTo(text []byte) []byte {
	text = append(text, byte(len(i.key)), byte(len(i.value)>>8), byte(len(i.value)))
	text = append(text, i.key...)
	if i.isLong() {
		return appendRef(append(text, i.value[0]), i.ref)
	}
	return append(text, i.value...)
}

// text is that of a long value.
func (i *item) text() []byte { return append([]byte{valueKind}, i.value[1:]...) }

// fill makes the node be what its text says, as one of that kind; false, if it
// is none. Of all that lies in other texts it has just the refs then.
func (n *node) fill(kind byte, text []byte) bool {
	if len(text) <= headSize || len(text) > partSize || text[0] != kind {
		return false
	}
	n.level = int(text[1])
	if n.level > 0 {
		return n.fillUnder(text[headSize:])
	}
	return n.fillItems(text[headSize:])
}

// fillUnder takes in a branch's refs.
func (n *node) fillUnder(rest []byte) bool {
	if len(rest)%refSize != 0 {
		return false
	}
	for ; len(rest) > 0; rest = rest[refSize:] {
		n.under = append(n.under, &node{ref: refIn(rest)})
	}
	return true
}

// fillItems takes in a leaf's items.
func (n *node) fillItems(rest []byte) bool {
	for len(rest) > 0 {
		found := itemIn(rest)
		if found == nil {
			return false
		}
		n.items = append(n.items, found)
		rest = rest[found.size():]
	}
	return true
}

// itemIn answers the item with which a leaf's bytes begin; nil, if they begin with none.
func itemIn(rest []byte) *item {
	if len(rest) < itemHead {
		return nil
	}
	keySize, valueSize := int(rest[0]), int(rest[1])<<8|int(rest[2])
	if keySize > maxKey || len(rest) < itemSize(keySize, valueSize) {
		return nil
	}
	body := rest[itemHead+keySize:]
	found := &item{key: string(rest[itemHead : itemHead+keySize]), value: make([]byte, valueSize)}
	if found.isLong() {
		found.value[0] = body[0]
		found.ref = refIn(body[1:])
	} else {
		copy(found.value, body)
	}
	return found
}

// fill takes in a long value from its text; false, if that is none of that length.
func (i *item) fill(text []byte) bool {
	if len(text) != len(i.value) || text[0] != valueKind {
		return false
	}
	copy(i.value[1:], text[1:])
	return true
}

// appendRef lays a ref's bytes, the highest of each number first.
func appendRef(text []byte, r ref) []byte {
	// A disk has at most 2^16 blocks, so a name fits.
	text = append(text, byte(r.name>>8), byte(r.name))
	for i := sumSize - 1; i >= 0; i-- {
		text = append(text, byte(r.sum>>(8*i)))
	}
	return text
}

// refIn answers the ref with which these bytes, as many as one has at least, begin.
func refIn(b []byte) ref {
	r := ref{name: int(b[0])<<8 | int(b[1])}
	for _, c := range b[nameSize:refSize] {
		r.sum = r.sum<<8 | uint64(c)
	}
	return r
}
