package book

import "reeve/api"

// How a tree lies is its own, and hangs on how it came about. But no two of its
// nodes that lie side by side would fit into one, so these tell of any tree how
// many blocks it takes at most, ahead of laying it.
const (
	// nodeFill is how many bytes each node has at least, on the whole and but
	// for one: not much less than half a block, since branches are few.
	nodeFill = 80
	// keyHead is how many bytes a key takes at most beside its own and its value's.
	keyHead = 16
	// longValue is from how many bytes on a value lies in a text of its own,
	// of which textPart bytes lie in a block.
	longValue = 240
	textPart  = 238
)

// room is how many blocks the tree may take: half of the pages, since the next
// one is laid beside it. So all that was committed can be laid at any time.
func (p plan) room() int { return p.pages.count / 2 }

// blocksFor is how many blocks a tree takes at most whose keys and values have that weight.
func blocksFor(weight int) int {
	if weight == 0 {
		return 0
	}
	return 1 + weight/nodeFill
}

// weightOf is the weight of a key and its value: a block for each nodeFill of it.
func weightOf(key string, value []byte) int {
	weight := keyHead + len(key)
	if len(value) < longValue {
		return weight + len(value)
	}
	return weight + nodeFill*((len(value)+textPart-1)/textPart)
}

// weightOfAll is the weight of all keys and their values.
func (b *Book) weightOfAll() int {
	weight := 0
	for _, key := range b.Keys("", "") {
		value, _ := b.Get(key)
		weight += weightOf(key, value)
	}
	return weight
}

// growth is by how much the weight is more behind a list, in which no key stands twice.
func (b *Book) growth(list []api.Change) int {
	more := 0
	for _, c := range list {
		if old, ok := b.Get(c.Key); ok {
			more -= weightOf(c.Key, old)
		}
		if !c.Gone {
			more += weightOf(c.Key, c.Value)
		}
	}
	return more
}
