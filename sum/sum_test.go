package sum_test

import (
	"bytes"
	"encoding/binary"
	"encoding/hex"
	"hash/fnv"
	"math/big"
	"strings"
	"testing"

	"reeve/api"
	"reeve/sum"
)

// The greatest payload, and where a sealed block's parts begin, as the chapter tells them.
const (
	mostPayload = 242
	kindAt      = 8
	placeAt     = 9
	lengthAt    = 13
	payloadAt   = 14
)

var (
	someKinds  = []byte{0, 1, 2, 78, 127, 128, 254, 255}
	somePlaces = []uint32{0, 1, 2, 255, 256, 65535, 65536, 0x01020304, 1<<31 - 1, 1 << 31, 1<<32 - 2, 1<<32 - 1}
	someSizes  = []int{0, 1, 2, 13, 14, 127, 128, 240, 241, 242}
)

// payloadOf makes a payload of that many bytes, none of which is 0.
func payloadOf(size int) []byte {
	b := make([]byte, size)
	for i := range b {
		b[i] = byte(1 + i*7%255)
	}
	return b
}

// laid is a block of these parts with a right sum, whether or not the parts
// are a sealed block's: length is what it says of the payload, and behind
// whatever stands in rest come noughts.
func laid(kind byte, place uint32, length byte, rest []byte) []byte {
	head := append([]byte{kind}, binary.BigEndian.AppendUint32(nil, place)...)
	head = append(head, length)
	b := make([]byte, 256)
	copy(b[kindAt:], head)
	copy(b[payloadAt:], rest)
	return summed(b)
}

// summed lays the right sum into a block.
func summed(b []byte) []byte {
	h := fnv.New64a()
	h.Write(b[kindAt:])
	binary.BigEndian.PutUint64(b, h.Sum64())
	return b
}

func mustSeal(t *testing.T, kind byte, place uint32, payload []byte) []byte {
	t.Helper()
	b, e := sum.Seal(kind, place, payload)
	if e != api.OK {
		t.Fatalf("Seal(%d, %d, %d bytes): error %d", kind, place, len(payload), e)
	}
	return b
}

func wantOpen(t *testing.T, kind byte, place uint32, block, payload []byte) {
	t.Helper()
	p, ok := sum.Open(kind, place, block)
	if !ok || !bytes.Equal(p, payload) {
		t.Errorf("Open(%d, %d) is %x, %v; want %x, true", kind, place, p, ok, payload)
	}
}

func wantNone(t *testing.T, why string, kind byte, place uint32, block []byte) {
	t.Helper()
	p, ok := sum.Open(kind, place, block)
	if ok || len(p) != 0 {
		t.Errorf("%s: Open(%d, %d) is %x, %v; want nothing, false", why, kind, place, p, ok)
	}
}

// P2.1: the sum.

func TestSum(t *testing.T) {
	for _, c := range []struct {
		b    string
		want uint64
	}{
		{"", 0xcbf29ce484222325},
		{"a", 0xaf63dc4c8601ec8c},
		{"b", 0xaf63df4c8601f1a5},
		{"fo", 0x08985907b541d342},
		{"foobar", 0x85944171f73967e8},
		{"\x00", 0xaf63bd4c8601b7df},
		{"\xff", 0xaf64724c8602eb6e},
	} {
		if x := sum.Sum([]byte(c.b)); x != c.want {
			t.Errorf("Sum(%q) is %x, want %x", c.b, x, c.want)
		}
	}
}

func TestSumOfNothing(t *testing.T) {
	for _, b := range [][]byte{nil, {}} {
		if x := sum.Sum(b); x != 14695981039346656037 {
			t.Errorf("Sum is %d", x)
		}
	}
}

// The sum as the chapter's words say it, with numbers that have no bound.
func TestSumByItsWords(t *testing.T) {
	bound := new(big.Int).Lsh(big.NewInt(1), 64)
	factor := big.NewInt(1099511628211)
	b := make([]byte, 600)
	for i := range b {
		b[i] = byte(i * i / 3)
	}
	x := new(big.Int).SetUint64(14695981039346656037)
	for i := range b {
		if got := sum.Sum(b[:i]); got != x.Uint64() {
			t.Fatalf("%d bytes: Sum is %d, want %s", i, got, x)
		}
		x.Xor(x, big.NewInt(int64(b[i])))
		x.Mul(x, factor)
		x.Mod(x, bound)
	}
}

// P2.1: the sealed block.

// The chapter writes the last of these bytes, that of "x", in base 16.
func TestSealExample(t *testing.T) {
	b := mustSeal(t, 1, 2, []byte("x"))
	if len(b) != api.BlockSize || b[8] != 1 || b[13] != 1 || b[14] != 0x78 {
		t.Errorf("%x", b)
	}
}

func TestSealByteForByte(t *testing.T) {
	want := make([]byte, 0, 256)
	want = append(want, 0, 0, 0, 0, 0, 0, 0, 0)
	want = append(want, 9)
	want = append(want, 0x01, 0x02, 0x03, 0x04)
	want = append(want, 3)
	want = append(want, "abc"...)
	want = append(want, make([]byte, 239)...)
	s := sum.Sum(want[8:])
	for i := range 8 {
		want[i] = byte(s >> (56 - 8*i))
	}
	if b := mustSeal(t, 9, 0x01020304, []byte("abc")); !bytes.Equal(b, want) {
		t.Errorf("%x\nwant %x", b, want)
	}
}

// A block's sum goes over its noughts too. These were worked out by another program.
func TestSealedSum(t *testing.T) {
	for _, c := range []struct {
		kind    byte
		place   uint32
		payload string
		want    string
	}{
		{1, 2, "x", "c5fb67b6f8d145d9"},
		{0, 0, "", "e712000d439bb485"},
		{255, 1<<32 - 1, strings.Repeat("\xff", 242), "e9b45b3beaf5a3ce"},
	} {
		b := mustSeal(t, c.kind, c.place, []byte(c.payload))
		if got := hex.EncodeToString(b[:8]); got != c.want {
			t.Errorf("%d, %d, %q: the sum is %s, want %s", c.kind, c.place, c.payload, got, c.want)
		}
	}
}

func TestSealEveryPart(t *testing.T) {
	for _, kind := range someKinds {
		for _, place := range somePlaces {
			for _, size := range someSizes {
				p := payloadOf(size)
				b := mustSeal(t, kind, place, p)
				if want := laid(kind, place, byte(size), p); !bytes.Equal(b, want) {
					t.Fatalf("%d, %d, %d bytes: %x, want %x", kind, place, size, b, want)
				}
			}
		}
	}
}

func TestSealEverySize(t *testing.T) {
	for size := range 600 {
		p := payloadOf(size)
		b, e := sum.Seal(7, 8, p)
		if size > mostPayload {
			if e != api.ErrLong || len(b) != 0 {
				t.Errorf("%d bytes: %x, error %d; want nothing, ErrLong", size, b, e)
			}
			continue
		}
		if e != api.OK || !bytes.Equal(b, laid(7, 8, byte(size), p)) {
			t.Errorf("%d bytes: %x, error %d", size, b, e)
		}
	}
}

// Lengths whose lowest byte is a small one are long all the same.
func TestSealLong(t *testing.T) {
	for _, size := range []int{243, 255, 256, 257, 512, 65536, 65537, 1 << 20} {
		if b, e := sum.Seal(0, 0, make([]byte, size)); e != api.ErrLong || len(b) != 0 {
			t.Errorf("%d bytes: %x, error %d; want nothing, ErrLong", size, b, e)
		}
	}
}

// P2.1: what is opened.

func TestOpenWhatWasSealed(t *testing.T) {
	for _, kind := range someKinds {
		for _, place := range somePlaces {
			for _, size := range someSizes {
				p := payloadOf(size)
				wantOpen(t, kind, place, mustSeal(t, kind, place, p), p)
			}
		}
	}
	for size := range mostPayload + 1 {
		p := payloadOf(size)
		wantOpen(t, 3, 4, mustSeal(t, 3, 4, p), p)
		noughts := make([]byte, size)
		wantOpen(t, 3, 4, mustSeal(t, 3, 4, noughts), noughts)
	}
}

// A block that was made by another than Seal is as good.
func TestOpenWhatWasLaid(t *testing.T) {
	wantOpen(t, 5, 6, laid(5, 6, 0, nil), nil)
	wantOpen(t, 5, 6, laid(5, 6, 3, []byte("abc")), []byte("abc"))
	wantOpen(t, 5, 6, laid(5, 6, 5, []byte("abc")), []byte("abc\x00\x00"))
	wantOpen(t, 5, 6, laid(5, 6, 242, []byte("abc")), append([]byte("abc"), make([]byte, 239)...))
}

func TestOpenAnotherKind(t *testing.T) {
	for _, kind := range someKinds {
		b := mustSeal(t, kind, 5, []byte("abc"))
		for other := range 256 {
			if byte(other) != kind {
				wantNone(t, "another kind", byte(other), 5, b)
			}
		}
	}
}

func TestOpenAnotherPlace(t *testing.T) {
	for _, place := range somePlaces {
		b := mustSeal(t, 5, place, []byte("abc"))
		for bit := range 32 {
			wantNone(t, "another place", 5, place^1<<bit, b)
		}
		for _, other := range somePlaces {
			if other != place {
				wantNone(t, "another place", 5, other, b)
			}
		}
	}
}

func TestOpenAnotherLength(t *testing.T) {
	for _, p := range [][]byte{nil, payloadOf(3), payloadOf(mostPayload)} {
		b := mustSeal(t, 1, 2, p)
		for size := range len(b) {
			wantNone(t, "cut short", 1, 2, b[:size:size])
			wantNone(t, "cut short, with the rest as spare room", 1, 2, b[:size])
			wantNone(t, "its end alone", 1, 2, b[len(b)-size:])
		}
		wantNone(t, "one byte more", 1, 2, append(bytes.Clone(b), 0))
		wantNone(t, "one byte more ahead", 1, 2, append([]byte{0}, b...))
		wantNone(t, "twice", 1, 2, append(bytes.Clone(b), b...))
	}
	wantNone(t, "nil", 0, 0, nil)
	wantNone(t, "empty", 0, 0, []byte{})
}

func TestOpenNoughts(t *testing.T) {
	wantNone(t, "noughts", 0, 0, make([]byte, 256))
	wantNone(t, "all bits", 255, 1<<32-1, bytes.Repeat([]byte{255}, 256))
}

// The sums of these blocks are right; it's something else that isn't.
func TestOpenRightSumAlone(t *testing.T) {
	for length := mostPayload + 1; length < 256; length++ {
		wantNone(t, "a length above 242", 1, 2, laid(1, 2, byte(length), nil))
		wantNone(t, "a length above 242, full", 1, 2, laid(1, 2, byte(length), payloadOf(mostPayload)))
	}
	for at := payloadAt + 3; at < 256; at++ {
		b := laid(1, 2, 3, []byte("abc"))
		b[at] = 1
		wantNone(t, "no noughts behind the payload", 1, 2, summed(b))
	}
	for length := range mostPayload {
		wantNone(t, "a length below the payload's", 1, 2, laid(1, 2, byte(length), payloadOf(mostPayload)))
	}
}

// The sum over other bytes than all the others, or laid down otherwise, is no sum of the block.
func TestOpenWrongSum(t *testing.T) {
	good := mustSeal(t, 1, 2, []byte("abc"))
	for name, s := range map[string]uint64{
		"of the payload alone":    sum.Sum([]byte("abc")),
		"of the payload's room":   sum.Sum(good[payloadAt:]),
		"without the noughts":     sum.Sum(good[kindAt : payloadAt+3]),
		"with noughts for itself": sum.Sum(append(make([]byte, 8), good[kindAt:]...)),
		"of nothing":              sum.Sum(nil),
		"nought":                  0,
		"one more":                binary.BigEndian.Uint64(good) + 1,
		"the lowest byte first":   binary.LittleEndian.Uint64(good),
	} {
		b := bytes.Clone(good)
		binary.BigEndian.PutUint64(b, s)
		wantNone(t, "the sum "+name, 1, 2, b)
	}
}

// P2.2: one byte that is another.

func TestOneByteIsAnother(t *testing.T) {
	for _, c := range []struct {
		kind  byte
		place uint32
		size  int
	}{
		{0, 0, 0}, {1, 2, 1}, {255, 1<<32 - 1, mostPayload}, {7, 0x01020304, 100},
	} {
		b := mustSeal(t, c.kind, c.place, payloadOf(c.size))
		for at := range b {
			was := b[at]
			for d := range 255 {
				b[at]++
				if p, ok := sum.Open(c.kind, c.place, b); ok || len(p) != 0 {
					t.Errorf("%v: byte %d raised by %d: %x, %v", c, at, d+1, p, ok)
				}
			}
			b[at]++
			if b[at] != was {
				t.Fatal("not as it was")
			}
		}
		wantOpen(t, c.kind, c.place, b, payloadOf(c.size))
	}
}

// It isn't a sealed block of the kind and place that it tells now, either.
func TestOneByteOfTheHeadIsAnother(t *testing.T) {
	for _, kind := range someKinds {
		for _, place := range somePlaces {
			b := mustSeal(t, kind, place, []byte("abc"))
			for at := kindAt; at < lengthAt; at++ {
				for range 255 {
					b[at]++
					told := binary.BigEndian.Uint32(b[placeAt:lengthAt])
					if p, ok := sum.Open(b[kindAt], told, b); ok || len(p) != 0 {
						t.Errorf("%d, %d, byte %d is %d: %x, %v", kind, place, at, b[at], p, ok)
					}
				}
				b[at]++
			}
		}
	}
}

// R2: the same question has the same answer.

func TestSameAnswer(t *testing.T) {
	first := mustSeal(t, 1, 2, []byte("abc"))
	mustSeal(t, 3, 4, payloadOf(mostPayload))
	wantNone(t, "another kind", 3, 2, first)
	if again := mustSeal(t, 1, 2, []byte("abc")); !bytes.Equal(again, first) {
		t.Errorf("%x, and then %x", first, again)
	}
	wantOpen(t, 1, 2, first, []byte("abc"))
	wantOpen(t, 1, 2, first, []byte("abc"))
}

// R3: memory is not shared, spare room neither.

// scribble overwrites an answer and its spare room.
func scribble(b []byte) {
	b = b[:cap(b)]
	for i := range b {
		b[i] = 0xee
	}
}

// roomy is these bytes, with spare room behind them that tells whether it was written to.
func roomy(b []byte) []byte {
	return append(bytes.Clone(b), "spare room, and some more of it"...)
}

func TestSumLeavesItsArgument(t *testing.T) {
	room := roomy([]byte("abc"))
	sum.Sum(room[:3])
	if !bytes.Equal(room, roomy([]byte("abc"))) {
		t.Errorf("became %q", room)
	}
}

func TestSealSharesNothing(t *testing.T) {
	for _, size := range []int{0, 3, mostPayload} {
		p := payloadOf(size)
		room := roomy(p)
		b := mustSeal(t, 1, 2, room[:size])
		second := mustSeal(t, 1, 2, room[:size])
		want := bytes.Clone(b)
		scribble(b)
		if !bytes.Equal(room, roomy(p)) {
			t.Errorf("%d bytes: the payload became %q", size, room)
		}
		scribble(room)
		if !bytes.Equal(second, want) {
			t.Errorf("%d bytes: the block became %x", size, second)
		}
	}
}

func TestSealLongLeavesItsArgument(t *testing.T) {
	p := payloadOf(mostPayload + 1)
	room := roomy(p)
	sum.Seal(1, 2, room[:len(p)])
	if !bytes.Equal(room, roomy(p)) {
		t.Errorf("the payload became %q", room)
	}
}

func TestOpenSharesNothing(t *testing.T) {
	for _, size := range []int{0, 3, mostPayload} {
		p := payloadOf(size)
		block := mustSeal(t, 1, 2, p)
		room := roomy(block)
		first, _ := sum.Open(1, 2, room[:256])
		second, _ := sum.Open(1, 2, room[:256])
		scribble(first)
		if !bytes.Equal(room, roomy(block)) {
			t.Errorf("%d bytes: the block became %x", size, room)
		}
		scribble(room)
		if !bytes.Equal(second, p) {
			t.Errorf("%d bytes: the payload became %x", size, second)
		}
	}
}

func TestOpenOfNoneLeavesItsArgument(t *testing.T) {
	block := mustSeal(t, 1, 2, []byte("abc"))
	for _, at := range []int{0, kindAt, placeAt, lengthAt, payloadAt, 255} {
		wrong := bytes.Clone(block)
		wrong[at] ^= 255
		room := roomy(wrong)
		wantNone(t, "one byte is another", 1, 2, room[:256])
		if !bytes.Equal(room, roomy(wrong)) {
			t.Errorf("byte %d: the block became %x", at, room)
		}
	}
}

// R4: no bytes, as nil and as an empty list.

func TestNoPayload(t *testing.T) {
	a, b := mustSeal(t, 1, 2, nil), mustSeal(t, 1, 2, []byte{})
	if !bytes.Equal(a, b) {
		t.Errorf("%x and %x", a, b)
	}
	wantOpen(t, 1, 2, a, nil)
}
