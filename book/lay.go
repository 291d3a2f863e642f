package book

import (
	"maps"
	"slices"
	"strings"

	"reeve/api"
	"reeve/codec"
	"reeve/disk"
	"reeve/log"
	"reeve/pages"
	"reeve/super"
	"reeve/tree"
)

// openTree reads the record, and the tree of the root that it tells.
func (b *Book) openTree(d *disk.Disk) api.Errno {
	var errno api.Errno
	if b.record, errno = super.Open(d); errno != api.OK {
		return errno
	}
	root, ok := rootIn(b.record)
	if !ok {
		return api.ErrForm
	}
	from, count := b.plan.pages.from, b.plan.pages.count
	names, errno := tree.Names(d, from, count, root)
	if errno != api.OK {
		return errno
	}
	if b.pages, errno = pages.Open(d, from, count, names); errno != api.OK {
		return errno
	}
	b.free = b.pages.Free()
	b.tree, errno = tree.Open(b.pages, root)
	return errno
}

// openLog reads the lists that were committed since the record was saved.
func (b *Book) openLog(d *disk.Disk) api.Errno {
	var errno api.Errno
	if b.log, errno = log.Open(d, b.plan.log.from, b.plan.log.count, b.record.Generation()); errno != api.OK {
		return errno
	}
	for _, unit := range b.log.Units() {
		if !b.take(unit) {
			return api.ErrForm
		}
	}
	return api.OK
}

// recordOf is what the record tells: the tree's root. The log's epoch is the
// record's generation: so one write makes a tree the book's, and empties the log.
func recordOf(root int) []byte {
	w := codec.NewWriter()
	w.Number(uint64(root))
	return w.Bytes()
}

// rootIn answers the root that the record tells; false, if it is no book's. A
// root that no tree has is the tree's to refuse.
func rootIn(s *super.Super) (int, bool) {
	if s.Generation() == 0 {
		return 0, true
	}
	r := codec.NewReader(s.Payload())
	root := int(r.Number())
	return root, r.End()
}

// take takes in a list that lies in the log; false, if the unit is none.
func (b *Book) take(unit []byte) bool {
	list, ok := listIn(unit)
	if !ok {
		return false
	}
	for _, c := range list {
		b.pending[c.Key] = c
	}
	b.lists++
	return true
}

// lay writes a list for which there is room: into the log, if need be behind a
// checkpoint, or, if it is too long for that too, into the tree.
func (b *Book) lay(list []api.Change) api.Errno {
	unit := unitOf(list)
	errno := b.log.Append(unit)
	if errno == api.ErrFull && b.lists > 0 {
		if errno = b.checkpoint(nil); errno != api.OK {
			return errno
		}
		errno = b.log.Append(unit)
	}
	switch errno {
	case api.OK:
		b.take(unit)
		return api.OK
	case api.ErrFull, api.ErrLong:
		return b.checkpoint(list)
	}
	return errno
}

// checkpoint lays all that is pending, and the list behind it, into the tree.
// It is done when the record is saved, and not at all ahead of that.
func (b *Book) checkpoint(list []api.Change) api.Errno {
	b.hold(list)
	if errno := b.tree.Apply(b.changes(list)); errno != api.OK {
		return errno
	}
	if errno := b.record.Save(recordOf(b.tree.Root())); errno != api.OK {
		return errno
	}
	b.tree.Settle()
	b.free = b.pages.Free()
	clear(b.pending)
	b.lists = 0
	return b.log.Reset(b.record.Generation())
}

// hold makes the list's keys pending as they are: if the record is lost, the
// tree in memory has the list already, and is not to be asked for them.
func (b *Book) hold(list []api.Change) {
	for _, c := range list {
		if _, ok := b.pending[c.Key]; ok {
			continue
		}
		value, ok := b.tree.Get(c.Key)
		key := strings.Clone(c.Key)
		b.pending[key] = api.Change{Key: key, Value: value, Gone: !ok}
	}
}

// changes answers all that is pending, and the list behind it, rising by their keys.
func (b *Book) changes(list []api.Change) []api.Change {
	last := maps.Clone(b.pending)
	for _, c := range list {
		last[c.Key] = c
	}
	var all []api.Change
	for _, key := range slices.Sorted(maps.Keys(last)) {
		all = append(all, last[key])
	}
	return all
}
