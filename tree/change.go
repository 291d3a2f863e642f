package tree

import (
	"slices"
	"strings"
)

// change is a key's new item; nil, if it is gone.
type change struct {
	key  string
	item *item
}

// update makes one tree of another. The nodes that it makes aren't put yet.
type update struct {
	// left has the names of the texts that the new tree doesn't need any more.
	left []int
}

// leave takes down that the text isn't needed any more, if there is one.
func (u *update) leave(r ref) {
	if r.isPut() {
		u.left = append(u.left, r.name)
	}
}

// tree answers the root's node behind these changes, which rise by their keys,
// and of which each changes something; nil, if no key is left.
func (u *update) tree(top *node, list []change) *node {
	if top == nil {
		// An empty leaf, which nobody has put.
		top = &node{}
	}
	level := u.replace(top, list)
	for len(level) > 1 {
		level = branches(level[0].level+1, u.joined(level))
	}
	if len(level) == 0 {
		return nil
	}
	return u.asRoot(level[0])
}

// replace answers the nodes, of its level, that come in a node's place.
func (u *update) replace(n *node, list []change) []*node {
	if len(list) == 0 {
		return []*node{n}
	}
	u.leave(n.ref)
	if n.level > 0 {
		return branches(n.level, u.joined(u.under(n, list)))
	}
	return leaves(u.items(n, list))
}

// under answers the nodes that come in the place of those under a branch.
func (u *update) under(n *node, list []change) []*node {
	var made []*node
	for i, old := range n.under {
		its := list
		if i+1 < len(n.under) {
			its = list[:before(list, n.under[i+1].first())]
		}
		list = list[len(its):]
		made = append(made, u.replace(old, its)...)
	}
	return made
}

// items answers the items that come in the place of a leaf's.
func (u *update) items(n *node, list []change) []*item {
	var made []*item
	done := 0
	for _, c := range list {
		at, found := n.itemAt(c.key)
		made = append(made, n.items[done:at]...)
		done = at
		if found {
			u.leave(n.items[at].ref)
			done++
		}
		if c.item != nil {
			made = append(made, c.item)
		}
	}
	return append(made, n.items[done:]...)
}

// joined makes one of neighbours that fit into one, and so on under them: no two
// nodes that lie side by side under a branch would fit into one.
func (u *update) joined(list []*node) []*node {
	var made []*node
	for _, n := range list {
		last := len(made) - 1
		if last < 0 || made[last].filled()+n.filled() > nodeRoom {
			made = append(made, n)
			continue
		}
		u.leave(made[last].ref)
		u.leave(n.ref)
		made[last] = &node{
			level: n.level,
			items: slices.Concat(made[last].items, n.items),
			under: u.joined(slices.Concat(made[last].under, n.under)),
		}
	}
	return made
}

// asRoot answers the root's node in the place of the only one that is left of
// its level: one that isn't put, since a root's text says that it is one.
func (u *update) asRoot(n *node) *node {
	for len(n.under) == 1 {
		u.leave(n.ref)
		n = n.under[0]
	}
	u.leave(n.ref)
	return &node{level: n.level, items: n.items, under: n.under}
}

// before tells how many of the changes, from the first on, are below the key.
func before(list []change, key string) int {
	at, _ := slices.BinarySearchFunc(list, key, func(c change, key string) int {
		return strings.Compare(c.key, key)
	})
	return at
}

// leaves answers leaves that have these items.
func leaves(items []*item) []*node {
	var made []*node
	for _, run := range runs(items) {
		made = append(made, &node{items: run})
	}
	return made
}

// branches answers branches of that level that have these nodes under them.
func branches(level int, under []*node) []*node {
	var made []*node
	for _, run := range runs(under) {
		made = append(made, &node{level: level, under: run})
	}
	return made
}

// runs cuts a list into runs of which each fits into a node, and which are
// about as long as one another, so that each has room for what comes later.
func runs[T interface{ size() int }](list []T) [][]T {
	total := 0
	for _, one := range list {
		total += one.size()
	}
	many := (total + nodeRoom - 1) / nodeRoom
	var cut [][]T
	start, filled := 0, 0
	for i, one := range list {
		hasItsShare := filled*many >= total
		if i > start && (hasItsShare || filled+one.size() > nodeRoom) {
			cut = append(cut, list[start:i:i])
			start, filled = i, 0
		}
		filled += one.size()
	}
	if start < len(list) {
		cut = append(cut, list[start:])
	}
	return cut
}
