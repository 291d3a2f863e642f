package tree

import (
	"iter"
	"slices"
	"strings"
)

// ref tells a text of the pages. The zero ref is that of a text that isn't put yet.
type ref struct {
	name int
	// sum is that of the text's bytes: it tells the text from another one that
	// was written over it under the same name.
	sum uint64
}

// item is a key and its value.
type item struct {
	// ref is of the text that has the value, if it is too long for a leaf.
	ref
	key   string
	value []byte
}

// node is a leaf, which has items, or a branch, which has nodes under it. Both
// rise by their keys, and there is one at least. What is put is never changed
// any more: the trees before and behind a change share it.
type node struct {
	ref
	// level is 0 of a leaf, and of a branch one more than that of the nodes under it.
	level int
	items []*item
	under []*node
}

// first is the lowest key in the node.
func (n *node) first() string {
	for n.level > 0 {
		n = n.under[0]
	}
	return n.items[0].key
}

// underFor tells which of the nodes under a branch has the key, if any has.
func (n *node) underFor(key string) int {
	at, found := slices.BinarySearchFunc(n.under, key, func(u *node, key string) int {
		return strings.Compare(u.first(), key)
	})
	if found {
		return at
	}
	return max(at-1, 0)
}

// itemAt tells where in a leaf the key is, or would be.
func (n *node) itemAt(key string) (int, bool) {
	return slices.BinarySearchFunc(n.items, key, func(i *item, key string) int {
		return strings.Compare(i.key, key)
	})
}

// find answers the key's item; nil, if there is none. A nil node has none.
func (n *node) find(key string) *item {
	if n == nil {
		return nil
	}
	for n.level > 0 {
		n = n.under[n.underFor(key)]
	}
	at, found := n.itemAt(key)
	if !found {
		return nil
	}
	return n.items[at]
}

// itemsFrom goes through the items whose keys are not below that one, rising.
func (n *node) itemsFrom(key string) iter.Seq[*item] {
	return func(yield func(*item) bool) {
		if n != nil {
			n.goFrom(key, yield)
		}
	}
}

// goFrom is itemsFrom, and tells whether to go on behind this node.
func (n *node) goFrom(key string, yield func(*item) bool) bool {
	if n.level > 0 {
		for _, u := range n.under[n.underFor(key):] {
			if !u.goFrom(key, yield) {
				return false
			}
		}
		return true
	}
	at, _ := n.itemAt(key)
	for _, i := range n.items[at:] {
		if !yield(i) {
			return false
		}
	}
	return true
}

// names goes through the names of all texts that the node needs, its own too.
func (n *node) names() iter.Seq[int] {
	return func(yield func(int) bool) {
		if n != nil {
			n.goNames(yield)
		}
	}
}

// goNames is names, and tells whether to go on behind this node.
func (n *node) goNames(yield func(int) bool) bool {
	for _, u := range n.under {
		if !u.goNames(yield) {
			return false
		}
	}
	for _, i := range n.items {
		if i.isLong() && !yield(i.name) {
			return false
		}
	}
	return yield(n.name)
}
