package book

import (
	"bytes"
	"strings"
	"testing"

	"reeve/api"
	"reeve/codec"
	"reeve/disk"
	"reeve/log"
	"reeve/super"
)

// unitWith lays keys and what becomes of them, whether or not a Commit would.
func unitWith(lay func(w *codec.Writer)) []byte {
	w := codec.NewWriter()
	lay(w)
	return w.Bytes()
}

// badUnits are sealed by nobody's Commit.
func badUnits() map[string][]byte {
	return map[string][]byte{
		"a key alone":       unitWith(func(w *codec.Writer) { w.Text("a") }),
		"no value":          unitWith(func(w *codec.Writer) { w.Text("a"); w.Number(hasValue) }),
		"something else":    unitWith(func(w *codec.Writer) { w.Text("a"); w.Number(hasValue + 1); w.Text("b") }),
		"no key":            unitWith(func(w *codec.Writer) { w.Text(""); w.Number(isGone) }),
		"a long key":        unitWith(func(w *codec.Writer) { w.Text(strings.Repeat("a", maxKey+1)); w.Number(isGone) }),
		"a key twice":       unitWith(func(w *codec.Writer) { w.Text("a"); w.Number(isGone); w.Text("a"); w.Number(isGone) }),
		"a long value":      unitWith(func(w *codec.Writer) { w.Text("a"); w.Number(hasValue); w.Text(strings.Repeat("a", api.MaxValue+1)) }),
		"half of a key":     {5, 'a', 'b'},
		"no text":           {0xff},
		"a list and a bit":  append(unitOf([]api.Change{{Key: "a", Gone: true}}), 1),
		"a list and a text": append(unitOf([]api.Change{{Key: "a", Value: []byte("b")}}), 1, 'b'),
	}
}

func TestUnitsAreLists(t *testing.T) {
	long := bytes.Repeat([]byte("v"), api.MaxValue)
	for _, list := range [][]api.Change{
		{{Key: "a", Value: []byte("1")}},
		{{Key: "a", Gone: true}},
		{{Key: "b"}, {Key: "a", Gone: true}, {Key: strings.Repeat("k", maxKey), Value: long}, {Key: "\x00", Value: []byte{0, 1, 0xff}}},
	} {
		got, ok := listIn(unitOf(list))
		if !ok || len(got) != len(list) {
			t.Fatalf("%d changes: %d, %v", len(list), len(got), ok)
		}
		for i, c := range list {
			if got[i].Key != c.Key || got[i].Gone != c.Gone || !bytes.Equal(got[i].Value, c.Value) {
				t.Errorf("change %d: %v; not %v", i, got[i], c)
			}
		}
	}
	// The value of one that is gone isn't kept.
	if got, ok := listIn(unitOf([]api.Change{{Key: "a", Value: long, Gone: true}})); !ok || len(got) != 1 || len(got[0].Value) != 0 || !got[0].Gone {
		t.Errorf("gone with a value: %v", ok)
	}
}

func TestUnitsThatAreNoLists(t *testing.T) {
	for what, unit := range badUnits() {
		if got, ok := listIn(unit); ok || got != nil {
			t.Errorf("%s: %v", what, got)
		}
		d := disk.New(fewestBlocks)
		p := planFor(fewestBlocks)
		l, _ := log.Open(d, p.log.from, p.log.count, 0)
		if len(unit) > 1000 {
			d = disk.New(1000)
			p = planFor(1000)
			l, _ = log.Open(d, p.log.from, p.log.count, 0)
		}
		if e := l.Append(unit); e != api.OK {
			t.Fatal(e)
		}
		if b, e := Open(d); b != nil || e != api.ErrForm {
			t.Errorf("%s: Open: %v, %v", what, b, e)
		}
	}
}

func TestRecordsThatAreNoBooks(t *testing.T) {
	for what, payload := range map[string][]byte{
		"none":               {},
		"no root's":          recordOf(9),
		"beyond the disk":    recordOf(24),
		"in the log":         recordOf(3),
		"beyond any disk":    recordOf(api.MostBlocks),
		"as great as may be": {0xff, 0xff, 0xff, 0xff, 0xff, 0xff, 0xff, 0xff, 0xff},
		"more behind it":     append(recordOf(0), 0),
		"no number":          {0xff},
	} {
		d := disk.New(fewestBlocks)
		s, _ := super.Open(d)
		if e := s.Save(payload); e != api.OK {
			t.Fatal(e)
		}
		if b, e := Open(d); b != nil || e != api.ErrForm {
			t.Errorf("a record that is %s: %v, %v", what, b, e)
		}
	}
}

func TestRootsInRecords(t *testing.T) {
	for _, root := range []int{0, 1, 247, 248, 255, 256, api.MostBlocks - 1} {
		d := disk.New(2)
		s, _ := super.Open(d)
		if got, ok := rootIn(s); got != 0 || !ok {
			t.Errorf("none saved: %d, %v", got, ok)
		}
		s.Save(recordOf(root))
		if got, ok := rootIn(s); got != root || !ok {
			t.Errorf("%d: %d, %v", root, got, ok)
		}
	}
}
