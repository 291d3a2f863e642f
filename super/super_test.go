package super_test

import (
	"bytes"
	"math/rand"
	"slices"
	"testing"

	"reeve/api"
	"reeve/disk"
	"reeve/super"
)

// The longest payload, as the chapter tells it.
const mostPayload = 200

// payloadOf makes a payload of that many bytes, which differ from those of other starts.
func payloadOf(start, size int) []byte {
	b := make([]byte, size)
	for i := range b {
		b[i] = byte(start*31 + i*7)
	}
	return b
}

// blockOf is a block that nobody sealed.
func blockOf(start int) []byte { return payloadOf(start, api.BlockSize) }

// mustOpen opens a disk that nothing stands against.
func mustOpen(t *testing.T, d *disk.Disk) *super.Super {
	t.Helper()
	s, e := super.Open(d)
	if e != api.OK || s == nil {
		t.Fatalf("Open: %v, %v", s, e)
	}
	return s
}

// mustSave does a Save that nothing stands against.
func mustSave(t *testing.T, s *super.Super, payload []byte) {
	t.Helper()
	if e := s.Save(payload); e != api.OK {
		t.Fatalf("Save(%d bytes): %v", len(payload), e)
	}
}

// wantRecord holds the record against what it should be.
func wantRecord(t *testing.T, what string, s *super.Super, generation uint64, payload []byte) {
	t.Helper()
	if s.Generation() != generation || !bytes.Equal(s.Payload(), payload) {
		t.Errorf("%s: %d, %x; not %d, %x", what, s.Generation(), s.Payload(), generation, payload)
	}
}

// wantOpened holds the record that Open answers against what it should be.
func wantOpened(t *testing.T, what string, d *disk.Disk, generation uint64, payload []byte) {
	t.Helper()
	wantRecord(t, what, mustOpen(t, d), generation, payload)
}

// wantNoOpen asks for an Open that is refused.
func wantNoOpen(t *testing.T, what string, d *disk.Disk, want api.Errno) {
	t.Helper()
	if s, e := super.Open(d); s != nil || e != want {
		t.Errorf("%s: Open: %v, %v; not nil, %v", what, s, e, want)
	}
}

// wantSave holds what Save answers against what it should be.
func wantSave(t *testing.T, what string, s *super.Super, payload []byte, want api.Errno) {
	t.Helper()
	if e := s.Save(payload); e != want {
		t.Errorf("%s: Save(%d bytes): %v; not %v", what, len(payload), e, want)
	}
}

// wantWrites holds how many writes a disk has done against what it should be.
func wantWrites(t *testing.T, what string, d *disk.Disk, want int) {
	t.Helper()
	if d.Writes() != want {
		t.Errorf("%s: %d writes; not %d", what, d.Writes(), want)
	}
}

// takeDown makes a disk be down by a write that another than a Super does.
func takeDown(t *testing.T, d *disk.Disk) {
	t.Helper()
	d.SetFuse(0)
	if e := d.Write(0, blockOf(1)); e != api.ErrLost || !d.Down() {
		t.Fatalf("the disk isn't down: %v", e)
	}
}

// The chapter's examples.

func TestExamples(t *testing.T) {
	d := disk.New(2)
	s := mustOpen(t, d)
	mustSave(t, s, []byte("a"))
	mustSave(t, s, []byte("b"))
	wantRecord(t, "behind two Saves", s, 2, []byte("b"))
	wantOpened(t, "Cut(1)", d.Cut(1), 1, []byte("a"))
}

// P6.1: Open.

func TestOpenOfTooFewBlocks(t *testing.T) {
	wantNoOpen(t, "nil", nil, api.ErrArg)
	wantNoOpen(t, "the zero disk", &disk.Disk{}, api.ErrArg)
	for _, blocks := range []int{-1, 0, 1} {
		d := disk.New(blocks)
		wantNoOpen(t, "a small disk", d, api.ErrArg)
		wantWrites(t, "a small disk", d, 0)
	}
}

func TestTooFewBlocksIsAskedAheadOfTheRead(t *testing.T) {
	d := disk.New(1)
	takeDown(t, d)
	wantNoOpen(t, "a small disk that is down", d, api.ErrArg)
}

func TestOpenOfADiskThatIsDown(t *testing.T) {
	for _, saves := range []int{0, 1, 2, 3} {
		d := disk.New(2)
		s := mustOpen(t, d)
		for n := range saves {
			mustSave(t, s, payloadOf(n, 5))
		}
		takeDown(t, d)
		for range 3 {
			wantNoOpen(t, "down", d, api.ErrLost)
		}
		d.Restart()
		wantRecord(t, "restarted", mustOpen(t, d), uint64(saves), s.Payload())
	}
}

func TestOpenOfADiskOnWhichNoneWasSaved(t *testing.T) {
	for _, blocks := range []int{2, 3, 100, api.MostBlocks} {
		d := disk.New(blocks)
		for range 3 {
			wantOpened(t, "a new disk", d, 0, nil)
		}
		wantWrites(t, "a new disk", d, 0)
	}
}

func TestBlocksThatAreNoRecord(t *testing.T) {
	for _, places := range [][]int{{0}, {1}, {0, 1}, {2, 3}, {0, 1, 2, 3}} {
		d := disk.New(4)
		for _, i := range places {
			if e := d.Write(i, blockOf(i+3)); e != api.OK {
				t.Fatal(e)
			}
		}
		wantOpened(t, "foreign blocks", d, 0, nil)
		s := mustOpen(t, d)
		for n := range 4 {
			mustSave(t, s, payloadOf(n, 9))
			wantOpened(t, "foreign blocks, saved", d, uint64(n+1), payloadOf(n, 9))
		}
	}
}

func TestOpenWritesNothing(t *testing.T) {
	d := disk.New(2)
	s := mustOpen(t, d)
	for n := range 6 {
		d.SetFuse(1)
		for range 3 {
			wantOpened(t, "fused", d, uint64(n), s.Payload())
		}
		wantWrites(t, "behind Open", d, n)
		mustSave(t, s, payloadOf(n, n))
		wantOpened(t, "the fuse has ended", d, uint64(n+1), payloadOf(n, n))
		if d.Down() {
			t.Error("Open has taken the disk down")
		}
	}
}

// P6.2: Save.

func TestSaveOfEverySize(t *testing.T) {
	d := disk.New(2)
	s := mustOpen(t, d)
	generation, last := uint64(0), []byte(nil)
	for size := range 300 {
		p := payloadOf(size, size)
		if size > mostPayload {
			wantSave(t, "a long one", s, p, api.ErrLong)
		} else {
			mustSave(t, s, p)
			generation, last = generation+1, p
		}
		wantRecord(t, "saved", s, generation, last)
		wantOpened(t, "opened", d, generation, last)
		wantWrites(t, "saved", d, int(generation))
	}
}

// Lengths whose lowest byte is a small one are long all the same.
func TestSaveOfLongOnes(t *testing.T) {
	d := disk.New(2)
	s := mustOpen(t, d)
	mustSave(t, s, []byte("kept"))
	d.SetFuse(0)
	for _, size := range []int{201, 202, 242, 243, 255, 256, 257, 456, 512, 65536, 1 << 20} {
		wantSave(t, "a long one", s, make([]byte, size), api.ErrLong)
		wantRecord(t, "a long one", s, 1, []byte("kept"))
	}
	if d.Down() {
		t.Error("a long one was written")
	}
	d.SetFuse(-1)
	wantWrites(t, "long ones", d, 1)
	wantOpened(t, "long ones", d, 1, []byte("kept"))
	mustSave(t, s, []byte("next"))
	wantOpened(t, "behind long ones", d, 2, []byte("next"))
}

func TestSpareRoomIsNoPartOfThePayload(t *testing.T) {
	d := disk.New(2)
	s := mustOpen(t, d)
	room := payloadOf(4, 500)
	mustSave(t, s, room[:mostPayload])
	wantOpened(t, "spare room", d, 1, payloadOf(4, mostPayload))
}

func TestPayloadsOfOneByte(t *testing.T) {
	d := disk.New(2)
	s := mustOpen(t, d)
	for b := range 256 {
		mustSave(t, s, []byte{byte(b)})
		wantRecord(t, "one byte", s, uint64(b+1), []byte{byte(b)})
		wantOpened(t, "one byte", d, uint64(b+1), []byte{byte(b)})
	}
}

func TestPayloadsOfNoughtsAndOfTheHighestByte(t *testing.T) {
	d := disk.New(2)
	s := mustOpen(t, d)
	generation := uint64(0)
	for _, b := range []byte{0x00, 0xff} {
		for _, size := range []int{1, 2, 199, 200} {
			p := bytes.Repeat([]byte{b}, size)
			mustSave(t, s, p)
			generation++
			wantOpened(t, "one byte again and again", d, generation, p)
		}
	}
}

// A record without a payload is a record too.
func TestSaveOfNothing(t *testing.T) {
	for _, nothing := range [][]byte{nil, {}} {
		d := disk.New(2)
		s := mustOpen(t, d)
		mustSave(t, s, nothing)
		wantOpened(t, "nothing first", d, 1, nil)
		mustSave(t, s, []byte("x"))
		mustSave(t, s, nothing)
		wantRecord(t, "nothing", s, 3, nil)
		wantOpened(t, "nothing", d, 3, nil)
	}
}

func TestSameAgainIsASaveToo(t *testing.T) {
	d := disk.New(2)
	s := mustOpen(t, d)
	for n := range 5 {
		mustSave(t, s, []byte("same"))
		wantOpened(t, "the same", d, uint64(n+1), []byte("same"))
	}
}

// The generation's own bytes grow at 248 and at 256.
func TestManyGenerations(t *testing.T) {
	d := disk.New(2)
	s := mustOpen(t, d)
	for n := range 1000 {
		p := payloadOf(n, mostPayload-n%3)
		mustSave(t, s, p)
		wantRecord(t, "saved", s, uint64(n+1), p)
		wantOpened(t, "opened", d, uint64(n+1), p)
	}
}

func TestSaveWritesOneBlockInTurn(t *testing.T) {
	d := disk.New(5)
	s := mustOpen(t, d)
	for n := range 40 {
		mustSave(t, s, payloadOf(n, 3))
		wantWrites(t, "Save", d, n+1)
		if i := d.Written(n); i != 0 && i != 1 {
			t.Errorf("Save wrote the block %d", i)
		}
		if n > 0 && d.Written(n) == d.Written(n-1) {
			t.Errorf("the block %d twice, one Save behind the other", d.Written(n))
		}
		// The turn goes on for one who opens the disk behind any of them.
		if n%3 == 2 {
			s = mustOpen(t, d)
		}
	}
}

func TestOtherBlocksAreLeftAlone(t *testing.T) {
	d := disk.New(4)
	for i := range 4 {
		if e := d.Write(i, blockOf(i)); e != api.OK {
			t.Fatal(e)
		}
	}
	s := mustOpen(t, d)
	for n := range 5 {
		mustSave(t, s, payloadOf(n, mostPayload))
	}
	for _, i := range []int{2, 3} {
		if b, e := d.Read(i); e != api.OK || !bytes.Equal(b, blockOf(i)) {
			t.Errorf("block %d: %x, %v", i, b, e)
		}
	}
}

func TestSaveThatIsLost(t *testing.T) {
	for done := range 6 {
		d := disk.New(2)
		s := mustOpen(t, d)
		d.SetFuse(done)
		var last []byte
		for n := range done {
			last = payloadOf(n, 20)
			mustSave(t, s, last)
		}
		for range 3 {
			wantSave(t, "the fuse ends", s, []byte("lost"), api.ErrLost)
			wantRecord(t, "lost", s, uint64(done), last)
		}
		if !d.Down() {
			t.Error("the disk isn't down")
		}
		wantWrites(t, "lost", d, done)
		d.Restart()
		wantOpened(t, "restarted", d, uint64(done), last)
	}
}

func TestSaveBehindALostOneIsLost(t *testing.T) {
	d := disk.New(2)
	s := mustOpen(t, d)
	mustSave(t, s, []byte("kept"))
	d.SetFuse(0)
	wantSave(t, "the fuse ends", s, []byte("lost"), api.ErrLost)
	d.Restart()
	d.SetFuse(0)
	for _, p := range [][]byte{nil, []byte("lost"), []byte("kept"), payloadOf(1, mostPayload)} {
		wantSave(t, "behind a lost one", s, p, api.ErrLost)
		wantRecord(t, "behind a lost one", s, 1, []byte("kept"))
	}
	if d.Down() {
		t.Error("a Save behind a lost one was written")
	}
	wantWrites(t, "behind a lost one", d, 1)
	d.Restart()
	next := mustOpen(t, d)
	mustSave(t, next, []byte("next"))
	wantRecord(t, "opened anew", next, 2, []byte("next"))
	wantSave(t, "the old one", s, []byte("lost"), api.ErrLost)
	wantRecord(t, "the old one", s, 1, []byte("kept"))
	wantOpened(t, "opened anew", d, 2, []byte("next"))
}

func TestSaveToADiskThatAnotherTookDown(t *testing.T) {
	d := disk.New(2)
	s := mustOpen(t, d)
	mustSave(t, s, []byte("kept"))
	takeDown(t, d)
	wantRecord(t, "down", s, 1, []byte("kept"))
	wantSave(t, "down", s, []byte("lost"), api.ErrLost)
	d.Restart()
	wantSave(t, "restarted", s, []byte("lost"), api.ErrLost)
	wantOpened(t, "restarted", d, 1, []byte("kept"))
}

// Only a Save that was lost ends a Super: one that asked for nothing meanwhile goes on.
func TestSaveToADiskThatWasDownMeanwhile(t *testing.T) {
	d := disk.New(2)
	s := mustOpen(t, d)
	mustSave(t, s, []byte("first"))
	takeDown(t, d)
	d.Restart()
	mustSave(t, s, []byte("second"))
	wantRecord(t, "restarted", s, 2, []byte("second"))
	wantOpened(t, "restarted", d, 2, []byte("second"))
}

func TestLongIsAskedAheadOfLost(t *testing.T) {
	d := disk.New(2)
	s := mustOpen(t, d)
	long := make([]byte, mostPayload+1)
	takeDown(t, d)
	wantSave(t, "a long one while down", s, long, api.ErrLong)
	d.Restart()
	// The long one was never written, so nothing was lost by it.
	mustSave(t, s, []byte("kept"))
	d.SetFuse(0)
	wantSave(t, "a long one at the fuse's end", s, long, api.ErrLong)
	wantSave(t, "the fuse ends", s, []byte("lost"), api.ErrLost)
	wantSave(t, "a long one behind a lost one", s, long, api.ErrLong)
	d.Restart()
	wantSave(t, "a long one behind a lost one", s, long, api.ErrLong)
	wantSave(t, "behind a lost one", s, []byte("lost"), api.ErrLost)
	wantOpened(t, "restarted", d, 1, []byte("kept"))
}

// P6.3: cuts.

func TestCutBehindEachSave(t *testing.T) {
	d := disk.New(3)
	s := mustOpen(t, d)
	saved := [][]byte{nil}
	for n := range 30 {
		p := payloadOf(n, n*37%201)
		mustSave(t, s, p)
		saved = append(saved, p)
	}
	for n, p := range saved {
		wantOpened(t, "cut", d.Cut(n), uint64(n), p)
	}
}

func TestSavesBehindACut(t *testing.T) {
	d := disk.New(2)
	s := mustOpen(t, d)
	for n := range 6 {
		mustSave(t, s, payloadOf(n, 8))
	}
	for n := range 7 {
		cut := d.Cut(n)
		again := mustOpen(t, cut)
		for k := range 5 {
			mustSave(t, again, payloadOf(100+k, 8))
			wantOpened(t, "saved on a cut", cut, uint64(n+k+1), payloadOf(100+k, 8))
		}
		for k := range 5 {
			wantOpened(t, "a cut of a cut", cut.Cut(n+k+1), uint64(n+k+1), payloadOf(100+k, 8))
		}
		if n > 0 {
			wantOpened(t, "a cut of a cut", cut.Cut(n), uint64(n), payloadOf(n-1, 8))
		}
	}
	wantOpened(t, "the disk that was cut", d, 6, payloadOf(5, 8))
}

// A disk on which others write too: behind each of its writes the record is
// that of the last Save ahead of it.
func TestCutsAmongTheWritesOfOthers(t *testing.T) {
	d := disk.New(6)
	s := mustOpen(t, d)
	generations := []uint64{0}
	payloads := [][]byte{nil}
	for n := range 40 {
		if n%3 == 1 {
			mustSave(t, s, payloadOf(n, 50))
		} else if e := d.Write(2+n%4, blockOf(n)); e != api.OK {
			t.Fatal(e)
		}
		generations = append(generations, s.Generation())
		payloads = append(payloads, s.Payload())
	}
	for n := range generations {
		wantOpened(t, "cut", d.Cut(n), generations[n], payloads[n])
	}
}

// Saves with fuses, restarts and Opens between them, held against a record in memory.
func TestManyCallsAgainstAModel(t *testing.T) {
	for seed := range 60 {
		r := rand.New(rand.NewSource(int64(seed)))
		d := disk.New(2 + r.Intn(3))
		s := mustOpen(t, d)
		over := false
		payloads := [][]byte{nil}
		for range 120 {
			switch r.Intn(8) {
			case 0:
				d.SetFuse(r.Intn(5))
			case 1:
				d.Restart()
				s, over = mustOpen(t, d), false
			case 2:
				d.Restart()
			default:
				p := payloadOf(r.Intn(1000), r.Intn(mostPayload+20))
				down := d.Down()
				switch e := s.Save(p); {
				case len(p) > mostPayload:
					if e != api.ErrLong || d.Down() != down {
						t.Fatalf("seed %d: a long one: %v", seed, e)
					}
				case over || d.Down():
					if e != api.ErrLost {
						t.Fatalf("seed %d: a lost one: %v", seed, e)
					}
					over = true
				case e != api.OK:
					t.Fatalf("seed %d: %v", seed, e)
				default:
					payloads = append(payloads, p)
				}
			}
			last := len(payloads) - 1
			wantRecord(t, "the model", s, uint64(last), payloads[last])
			wantWrites(t, "the model", d, last)
		}
		for n, p := range payloads {
			wantOpened(t, "a cut", d.Cut(n), uint64(n), p)
		}
		if t.Failed() {
			t.Fatalf("seed %d", seed)
		}
	}
}

// R1: nil, and the zero Super, whose disk is nil and so down.

func TestNilSuper(t *testing.T) {
	var s *super.Super
	for range 2 {
		wantRecord(t, "nil", s, 0, nil)
		for _, size := range []int{0, 1, mostPayload, mostPayload + 1, 1000} {
			wantSave(t, "nil", s, make([]byte, size), api.ErrArg)
		}
	}
}

func TestZeroSuper(t *testing.T) {
	s := &super.Super{}
	wantRecord(t, "zero", s, 0, nil)
	wantSave(t, "zero", s, make([]byte, mostPayload+1), api.ErrLong)
	for range 2 {
		wantSave(t, "zero", s, []byte("x"), api.ErrLost)
		wantRecord(t, "zero", s, 0, nil)
	}
}

// R2: the object's history alone.

func TestEachSuperIsForItself(t *testing.T) {
	first, second := disk.New(2), disk.New(2)
	a, b := mustOpen(t, first), mustOpen(t, second)
	mustSave(t, a, []byte("a"))
	first.SetFuse(0)
	wantSave(t, "the fuse ends", a, []byte("lost"), api.ErrLost)
	wantRecord(t, "the other", b, 0, nil)
	mustSave(t, b, []byte("b"))
	wantRecord(t, "the other", b, 1, []byte("b"))
	wantOpened(t, "the other", second, 1, []byte("b"))
}

func TestSameCallsLayTheSameBlocks(t *testing.T) {
	var blocks [2][]byte
	for n := range blocks {
		d := disk.New(2)
		s := mustOpen(t, d)
		mustSave(t, s, []byte("first"))
		mustSave(t, s, []byte("second"))
		for i := range 2 {
			b, e := d.Read(i)
			if e != api.OK {
				t.Fatal(e)
			}
			blocks[n] = append(blocks[n], b...)
		}
	}
	if !bytes.Equal(blocks[0], blocks[1]) {
		t.Error("the same calls have laid other blocks")
	}
}

// R3: memory.

// fill overwrites a list and its spare room.
func fill(list []byte) {
	list = list[:cap(list)]
	for i := range list {
		list[i] = 0xee
	}
}

func TestSavedPayloadStaysAsItIsAndIsNotKept(t *testing.T) {
	d := disk.New(2)
	s := mustOpen(t, d)
	room := payloadOf(1, 90)
	before := slices.Clone(room)
	mustSave(t, s, room[:60])
	if !bytes.Equal(room, before) {
		t.Errorf("the payload or its spare room was changed: %x", room)
	}
	fill(room)
	wantRecord(t, "overwritten", s, 1, before[:60])
	wantOpened(t, "overwritten", d, 1, before[:60])
}

func TestPayloadIsNewMemory(t *testing.T) {
	d := disk.New(2)
	mustSave(t, mustOpen(t, d), []byte("payload"))
	s := mustOpen(t, d)
	first, second := s.Payload(), s.Payload()
	fill(first)
	if string(second) != "payload" {
		t.Error("two answers share memory")
	}
	wantRecord(t, "overwritten", s, 1, []byte("payload"))
	old := s.Payload()
	mustSave(t, s, []byte("another"))
	if string(old) != "payload" {
		t.Error("an answer was changed by a Save")
	}
	fill(s.Payload())
	wantRecord(t, "overwritten", s, 2, []byte("another"))
	wantOpened(t, "overwritten", d, 2, []byte("another"))
}
