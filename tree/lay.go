package tree

import (
	"reeve/api"
	"reeve/pages"
)

// layer puts what isn't put yet of a tree.
type layer struct {
	pages *pages.Pages
	// names are of the texts that it has put.
	names []int
}

// lay puts all texts of a tree that aren't put yet, the root's last; if that is
// lost, none of them. A nil top has none.
func lay(p *pages.Pages, top *node) api.Errno {
	if top == nil {
		return api.OK
	}
	l := layer{pages: p}
	errno := l.node(top, rootKind)
	if errno != api.OK {
		for _, name := range l.names {
			p.Drop(name)
		}
	}
	return errno
}

// node puts the node's text, as one of that kind, behind all that it needs.
func (l *layer) node(n *node, kind byte) api.Errno {
	for _, u := range n.under {
		if u.isPut() {
			continue
		}
		if errno := l.node(u, innerKind); errno != api.OK {
			return errno
		}
	}
	for _, i := range n.items {
		if i.isPut() || !i.isLong() {
			continue
		}
		if errno := l.put(&i.ref, i.text()); errno != api.OK {
			return errno
		}
	}
	return l.put(&n.ref, n.text(kind))
}

// put puts a text, and fills in its ref.
func (l *layer) put(r *ref, text []byte) api.Errno {
	name, errno := l.pages.Put(text)
	if errno != api.OK {
		return errno
	}
	l.names = append(l.names, name)
	*r = refTo(name, text)
	return api.OK
}

// isPut tells whether the text is put: no name is 0, since no area begins there.
func (r ref) isPut() bool { return r.name != 0 }

// blocks tells how many blocks the node's texts take that aren't put yet.
func (n *node) blocks() int {
	if n == nil || n.isPut() {
		return 0
	}
	many := 1
	for _, u := range n.under {
		many += u.blocks()
	}
	for _, i := range n.items {
		if i.isLong() && !i.isPut() {
			many += (len(i.value) + partSize - 1) / partSize
		}
	}
	return many
}
