package book

import (
	"reeve/api"
	"reeve/codec"
)

const (
	// maxKey is how many bytes a key has at most.
	maxKey = 64
	// maxList is how many bytes all keys and values of a list have at most.
	maxList = 40000
)

// A unit of the log is a list: behind each key comes what becomes of it.
const (
	isGone uint64 = iota
	hasValue
)

// asked tells what stands against a list.
func asked(list []api.Change) api.Errno {
	seen := make(map[string]struct{}, len(list))
	for _, c := range list {
		if _, twice := seen[c.Key]; twice || c.Key == "" || len(c.Key) > maxKey {
			return api.ErrArg
		}
		seen[c.Key] = struct{}{}
	}
	total := 0
	for _, c := range list {
		total += len(c.Key) + len(c.Value)
		if len(c.Value) > api.MaxValue {
			return api.ErrLong
		}
	}
	if total > maxList {
		return api.ErrLong
	}
	return api.OK
}

// unitOf is a list as a unit.
func unitOf(list []api.Change) []byte {
	w := codec.NewWriter()
	for _, c := range list {
		w.Text(c.Key)
		if c.Gone {
			w.Number(isGone)
			continue
		}
		w.Number(hasValue)
		w.Text(string(c.Value))
	}
	return w.Bytes()
}

// listIn answers the list that a unit is, in memory of its own; false, if it is none.
func listIn(unit []byte) ([]api.Change, bool) {
	r := codec.NewReader(unit)
	var list []api.Change
	for r.Left() > 0 {
		c := api.Change{Key: r.Text()}
		switch r.Number() {
		case isGone:
			c.Gone = true
		case hasValue:
			c.Value = []byte(r.Text())
		default:
			return nil, false
		}
		list = append(list, c)
	}
	if !r.End() || asked(list) != api.OK {
		return nil, false
	}
	return list, true
}
