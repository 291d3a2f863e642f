package tree

import (
	"reeve/api"
	"reeve/pages"
)

// reading answers the texts of these names, in their order.
type reading func(names []int) ([][]byte, api.Errno)

// loader reads a tree, one level at a time.
type loader struct {
	read reading
	// seen has the names of the texts that were read: each is needed once.
	seen map[int]struct{}
}

// textsOf answers texts of pages.
func textsOf(p *pages.Pages, names []int) ([][]byte, api.Errno) {
	var texts [][]byte
	for _, name := range names {
		text, errno := p.Get(name)
		switch errno {
		case api.OK:
			texts = append(texts, text)
		case api.ErrNone:
			return nil, api.ErrForm
		default:
			return nil, errno
		}
	}
	return texts, api.OK
}

// load answers the node of that root, with all that it needs; nil of the root
// 0; ErrForm, if it is no tree's.
func load(read reading, root int) (*node, api.Errno) {
	if root == 0 {
		return nil, api.OK
	}
	texts, errno := read([]int{root})
	if errno != api.OK {
		return nil, errno
	}
	top := &node{ref: refTo(root, texts[0])}
	if !top.fill(rootKind, texts[0]) {
		return nil, api.ErrForm
	}
	l := loader{read: read, seen: map[int]struct{}{root: {}}}
	level := []*node{top}
	for level[0].level > 0 {
		if level, errno = l.nodesUnder(level); errno != api.OK {
			return nil, errno
		}
	}
	if errno := l.values(level); errno != api.OK {
		return nil, errno
	}
	if !isRising(level) {
		return nil, api.ErrForm
	}
	return top, api.OK
}

// nodesUnder reads all nodes under those of a level.
func (l *loader) nodesUnder(level []*node) ([]*node, api.Errno) {
	var under []*node
	var refs []ref
	for _, n := range level {
		for _, u := range n.under {
			under = append(under, u)
			refs = append(refs, u.ref)
		}
	}
	texts, errno := l.texts(refs)
	if errno != api.OK {
		return nil, errno
	}
	for i, u := range under {
		if !u.fill(innerKind, texts[i]) || u.level != level[0].level-1 {
			return nil, api.ErrForm
		}
	}
	return under, api.OK
}

// values reads the long values of all leaves.
func (l *loader) values(leaves []*node) api.Errno {
	var long []*item
	var refs []ref
	for _, n := range leaves {
		for _, i := range n.items {
			if i.isLong() {
				long = append(long, i)
				refs = append(refs, i.ref)
			}
		}
	}
	texts, errno := l.texts(refs)
	if errno != api.OK {
		return errno
	}
	for at, i := range long {
		if !i.fill(texts[at]) {
			return api.ErrForm
		}
	}
	return api.OK
}

// texts answers the texts that these refs tell; ErrForm, if one of them is
// another, or was read already.
func (l *loader) texts(refs []ref) ([][]byte, api.Errno) {
	var names []int
	for _, r := range refs {
		if _, twice := l.seen[r.name]; twice {
			return nil, api.ErrForm
		}
		l.seen[r.name] = struct{}{}
		names = append(names, r.name)
	}
	texts, errno := l.read(names)
	if errno != api.OK {
		return nil, errno
	}
	for i, r := range refs {
		if refTo(r.name, texts[i]) != r {
			return nil, api.ErrForm
		}
	}
	return texts, api.OK
}

// isRising tells whether all keys of these leaves rise, from above the text of no bytes on.
func isRising(leaves []*node) bool {
	last := ""
	for _, n := range leaves {
		for _, i := range n.items {
			if i.key <= last {
				return false
			}
			last = i.key
		}
	}
	return true
}
