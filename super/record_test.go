package super

import (
	"math"
	"testing"

	"reeve/api"
	"reeve/codec"
	"reeve/disk"
	"reeve/sum"
)

// sealedBlock seals a record's parts for a place, whether or not a Save would.
func sealedBlock(t *testing.T, kind byte, place int, generation uint64, payload, rest string) []byte {
	t.Helper()
	w := codec.NewWriter()
	w.Number(generation)
	w.Text(payload)
	b, e := sum.Seal(kind, uint32(place), append(w.Bytes(), rest...))
	if e != api.OK {
		t.Fatal(e)
	}
	return b
}

func TestRecordIsReadWhereItWasLaid(t *testing.T) {
	long := string(make([]byte, maxPayload))
	for _, generation := range []uint64{1, 2, 3, 247, 248, 1<<32 + 1, math.MaxUint64 - 1, math.MaxUint64} {
		for _, payload := range []string{"", "x", long} {
			r := record{generation: generation, payload: []byte(payload)}
			got := recordIn(r.place(), r.block())
			if got.generation != generation || string(got.payload) != payload {
				t.Errorf("%d, %q: %d, %q", generation, payload, got.generation, got.payload)
			}
			if got := recordIn(1-r.place(), r.block()); got.generation != 0 || got.payload != nil {
				t.Errorf("%d in the other's place: %d, %q", generation, got.generation, got.payload)
			}
		}
	}
}

// Each of these is a sealed block, but none that a Save would have laid there.
func TestSealedBlocksThatAreNoRecord(t *testing.T) {
	for place := range places {
		turn := uint64(place + 1)
		bare, e := sum.Seal(kind, uint32(place), []byte{byte(turn)})
		if e != api.OK {
			t.Fatal(e)
		}
		for what, block := range map[string][]byte{
			"a generation alone":     bare,
			"another kind":           sealedBlock(t, kind+1, place, turn, "x", ""),
			"another place":          sealedBlock(t, kind, 1-place, turn, "x", ""),
			"the other's generation": sealedBlock(t, kind, place, turn+1, "x", ""),
			"no generation":          sealedBlock(t, kind, place, 0, "x", ""),
			"more behind it":         sealedBlock(t, kind, place, turn, "x", "y"),
			"a longer payload":       sealedBlock(t, kind, place, turn, string(make([]byte, maxPayload+1)), ""),
		} {
			if recordIn(place, block).generation != 0 {
				t.Errorf("%s, in block %d: a record", what, place)
			}
			d := disk.New(places)
			d.Write(place, block)
			if s, e := Open(d); e != api.OK || s.Generation() != 0 || len(s.Payload()) != 0 {
				t.Errorf("%s, in block %d: %v, %v", what, place, s, e)
			}
		}
	}
}

// A wrong byte in the newer block brings back the older record, which the next Save leaves alone.
func TestWrongNewerBlockLeavesTheOlderRecord(t *testing.T) {
	d := disk.New(2)
	s, _ := Open(d)
	for n := range 5 {
		if s.Save([]byte{'a' + byte(n)}) != api.OK {
			t.Fatal("Save")
		}
		if n == 0 {
			continue
		}
		torn := d.Cut(n + 1)
		place := torn.Written(n)
		b, _ := torn.Read(place)
		b[api.BlockSize-1]++
		torn.Write(place, b)
		old, e := Open(torn)
		if e != api.OK || old.Generation() != uint64(n) || string(old.Payload()) != string([]byte{'a' + byte(n) - 1}) {
			t.Fatalf("%d: %v, %v", n, old, e)
		}
		if old.Save([]byte("z")) != api.OK || torn.Written(torn.Writes()-1) != place {
			t.Errorf("%d: the Save went over the older record", n)
		}
	}
}
