package codec_test

import (
	"bytes"
	"encoding/hex"
	"math/big"
	"strings"
	"testing"

	"reeve/codec"
)

// numberForms holds numbers beside their bytes, at every edge between two lengths.
var numberForms = []struct {
	n    uint64
	form string
}{
	{0, "00"},
	{1, "01"},
	{127, "7f"},
	{128, "80"},
	{246, "f6"},
	{247, "f7"},
	{248, "f8f8"},
	{255, "f8ff"},
	{256, "f90100"},
	{300, "f9012c"},
	{1<<16 - 1, "f9ffff"},
	{1 << 16, "fa010000"},
	{1<<24 - 1, "faffffff"},
	{1 << 24, "fb01000000"},
	{1<<32 - 1, "fbffffffff"},
	{1 << 32, "fc0100000000"},
	{1<<40 - 1, "fcffffffffff"},
	{1 << 40, "fd010000000000"},
	{1<<48 - 1, "fdffffffffffff"},
	{1 << 48, "fe01000000000000"},
	{1<<56 - 1, "feffffffffffffff"},
	{1 << 56, "ff0100000000000000"},
	{1<<63 - 1, "ff7fffffffffffffff"},
	{1 << 63, "ff8000000000000000"},
	{1<<64 - 1, "ffffffffffffffffff"},
}

var integerForms = []struct {
	n    int64
	form string
}{
	{0, "00"},
	{-1, "01"},
	{1, "02"},
	{-2, "03"},
	{2, "04"},
	{123, "f6"},
	{-124, "f7"},
	{124, "f8f8"},
	{-125, "f8f9"},
	{127, "f8fe"},
	{-128, "f8ff"},
	{128, "f90100"},
	{1<<62 - 1, "ff7ffffffffffffffe"},
	{1 << 62, "ff8000000000000000"},
	{-1 << 62, "ff7fffffffffffffff"},
	{1<<63 - 1, "fffffffffffffffffe"},
	{-1 << 63, "ffffffffffffffffff"},
}

var textForms = []struct {
	s    string
	form string
}{
	{"", "00"},
	{"a", "0161"},
	{"ab", "026162"},
	{"\x00\xff", "0200ff"},
	{"é", "02c3a9"},
	{strings.Repeat("x", 247), "f7" + strings.Repeat("78", 247)},
	{strings.Repeat("x", 248), "f8f8" + strings.Repeat("78", 248)},
	{strings.Repeat("x", 300), "f9012c" + strings.Repeat("78", 300)},
}

// badNumbers holds bytes that begin with no number.
var badNumbers = []struct {
	why  string
	form string
}{
	{"nothing is left", ""},
	{"the document's example", "f805"},
	{"a zero in one byte", "f800"},
	{"247 in two bytes", "f8f7"},
	{"a first byte of 0, two bytes", "f900ff"},
	{"a first byte of 0, three bytes", "fa00ffff"},
	{"a first byte of 0, seven bytes", "fe00ffffffffffff"},
	{"a first byte of 0, eight bytes", "ff00ffffffffffffff"},
	{"all of eight bytes 0", "ff0000000000000000"},
	{"ends behind the first of two", "f8"},
	{"ends behind the first of three", "f9"},
	{"ends one byte too early, three", "f901"},
	{"ends one byte too early, four", "faffff"},
	{"ends one byte too early, nine", "ffffffffffffffff"},
	{"ends behind the first of nine", "ff"},
}

// badTexts holds bytes that begin with no text.
var badTexts = []struct {
	why  string
	form string
}{
	{"nothing is left", ""},
	{"one byte too few", "036162"},
	{"a length and nothing else", "01"},
	{"a length that is no number", "f805616161616161"},
	{"a length that ends too early", "f901"},
	{"247 bytes, and 246 are there", "f7" + strings.Repeat("78", 246)},
	{"248 bytes, and 247 are there", "f8f8" + strings.Repeat("78", 247)},
	{"a length of 2^31", "fb8000000061"},
	{"a length of 2^63 - 1", "ff7fffffffffffffff61"},
	{"a length of 2^63", "ff800000000000000061"},
	{"the greatest length", "ffffffffffffffffff61"},
}

func fromHex(t *testing.T, form string) []byte {
	t.Helper()
	b, err := hex.DecodeString(form)
	if err != nil {
		t.Fatal(err)
	}
	return b
}

func wantLaid(t *testing.T, w *codec.Writer, form string) {
	t.Helper()
	if got := hex.EncodeToString(w.Bytes()); got != form {
		t.Errorf("laid %s, want %s", got, form)
	}
}

// wantBad asks everything of a reader that should be bad, twice: it must stay so.
func wantBad(t *testing.T, r *codec.Reader) {
	t.Helper()
	for range 2 {
		if !r.Bad() || r.End() || r.Left() != 0 {
			t.Errorf("Bad %v, End %v, Left %d; want true, false, 0", r.Bad(), r.End(), r.Left())
		}
		if n := r.Number(); n != 0 {
			t.Errorf("a bad reader's number is %d", n)
		}
		if n := r.Int(); n != 0 {
			t.Errorf("a bad reader's integer is %d", n)
		}
		if s := r.Text(); s != "" {
			t.Errorf("a bad reader's text is %q", s)
		}
	}
}

// wantGood asks whether a reader is not bad and has so many bytes left.
func wantGood(t *testing.T, r *codec.Reader, left int) {
	t.Helper()
	if r.Bad() || r.Left() != left || r.End() != (left == 0) {
		t.Errorf("Bad %v, Left %d, End %v; want false, %d, %v", r.Bad(), r.Left(), r.End(), left, left == 0)
	}
}

// P1.1: the bytes of numbers, integers and texts.

func TestWriteNumber(t *testing.T) {
	for _, c := range numberForms {
		w := codec.NewWriter()
		w.Number(c.n)
		wantLaid(t, w, c.form)
	}
}

func TestWriteInt(t *testing.T) {
	for _, c := range integerForms {
		w := codec.NewWriter()
		w.Int(c.n)
		wantLaid(t, w, c.form)
	}
}

func TestWriteText(t *testing.T) {
	for _, c := range textForms {
		w := codec.NewWriter()
		w.Text(c.s)
		wantLaid(t, w, c.form)
	}
}

// An integer's bytes are those of 2n or -2n - 1; here that is worked out with numbers that have no bound.
func TestIntIsANumber(t *testing.T) {
	for _, c := range integerForms {
		folded := new(big.Int).Mul(big.NewInt(2), big.NewInt(c.n))
		if c.n < 0 {
			folded.Neg(folded).Sub(folded, big.NewInt(1))
		}
		if !folded.IsUint64() {
			t.Fatalf("%d becomes %s", c.n, folded)
		}
		w := codec.NewWriter()
		w.Number(folded.Uint64())
		wantLaid(t, w, c.form)
	}
}

func TestWriterLaysBehind(t *testing.T) {
	w := codec.NewWriter()
	wantLaid(t, w, "")
	w.Number(300)
	wantLaid(t, w, "f9012c")
	w.Int(-1)
	wantLaid(t, w, "f9012c01")
	w.Text("ab")
	wantLaid(t, w, "f9012c01026162")
	w.Text("")
	wantLaid(t, w, "f9012c0102616200")
	wantLaid(t, w, "f9012c0102616200")
}

func TestZeroWriter(t *testing.T) {
	var w codec.Writer
	wantLaid(t, &w, "")
	w.Text("ab")
	w.Int(-1)
	w.Number(248)
	wantLaid(t, &w, "02616201f8f8")
}

func TestWritersAreApart(t *testing.T) {
	v, w := codec.NewWriter(), codec.NewWriter()
	v.Number(1)
	w.Number(2)
	v.Number(3)
	wantLaid(t, v, "0103")
	wantLaid(t, w, "02")
}

// P1.2: what is read, and what is bad.

func TestReadNumber(t *testing.T) {
	for _, c := range numberForms {
		r := codec.NewReader(fromHex(t, c.form+"00aa"))
		if n := r.Number(); n != c.n {
			t.Errorf("%s: read %d, want %d", c.form, n, c.n)
		}
		wantGood(t, r, 2)
	}
}

func TestReadInt(t *testing.T) {
	for _, c := range integerForms {
		r := codec.NewReader(fromHex(t, c.form+"00aa"))
		if n := r.Int(); n != c.n {
			t.Errorf("%s: read %d, want %d", c.form, n, c.n)
		}
		wantGood(t, r, 2)
	}
}

func TestReadText(t *testing.T) {
	for _, c := range textForms {
		r := codec.NewReader(fromHex(t, c.form+"00aa"))
		if s := r.Text(); s != c.s {
			t.Errorf("%s: read %q, want %q", c.form, s, c.s)
		}
		wantGood(t, r, 2)
	}
}

func TestReadGoesOn(t *testing.T) {
	r := codec.NewReader(fromHex(t, "f9012c"+"01"+"026162"+"00"+"f7"))
	wantGood(t, r, 9)
	if n := r.Number(); n != 300 {
		t.Errorf("number %d", n)
	}
	wantGood(t, r, 6)
	if n := r.Int(); n != -1 {
		t.Errorf("integer %d", n)
	}
	wantGood(t, r, 5)
	if s := r.Text(); s != "ab" {
		t.Errorf("text %q", s)
	}
	wantGood(t, r, 2)
	if s := r.Text(); s != "" {
		t.Errorf("text %q", s)
	}
	wantGood(t, r, 1)
	if n := r.Number(); n != 247 {
		t.Errorf("number %d", n)
	}
	wantGood(t, r, 0)
	if s := r.Text(); s != "" {
		t.Errorf("text %q behind the end", s)
	}
	wantBad(t, r)
}

func TestReadNothing(t *testing.T) {
	for _, b := range [][]byte{nil, {}} {
		wantGood(t, codec.NewReader(b), 0)
	}
	var r codec.Reader
	wantGood(t, &r, 0)
	if n := r.Number(); n != 0 {
		t.Errorf("number %d", n)
	}
	wantBad(t, &r)
}

func TestReadBadNumber(t *testing.T) {
	for _, c := range badNumbers {
		t.Run(c.why, func(t *testing.T) {
			r := codec.NewReader(fromHex(t, c.form))
			if n := r.Number(); n != 0 {
				t.Errorf("number %d", n)
			}
			wantBad(t, r)
			r = codec.NewReader(fromHex(t, c.form))
			if n := r.Int(); n != 0 {
				t.Errorf("integer %d", n)
			}
			wantBad(t, r)
		})
	}
}

// Good bytes ahead of and behind the bad ones change nothing: no read goes past them.
func TestReadBadInTheMiddle(t *testing.T) {
	for _, form := range []string{"f805", "f8f7", "f900ff", "ff00ffffffffffffff"} {
		r := codec.NewReader(fromHex(t, "07"+form+"0707"))
		if n := r.Number(); n != 7 {
			t.Errorf("number %d", n)
		}
		wantGood(t, r, len(form)/2+2)
		if n := r.Number(); n != 0 {
			t.Errorf("number %d", n)
		}
		wantBad(t, r)
	}
}

func TestReadBadText(t *testing.T) {
	for _, c := range badTexts {
		t.Run(c.why, func(t *testing.T) {
			r := codec.NewReader(fromHex(t, c.form))
			if s := r.Text(); s != "" {
				t.Errorf("text %q", s)
			}
			wantBad(t, r)
		})
	}
}

// Of each beginning of up to three bytes: it is good only if it is what the writer lays for that number.
func TestEveryShortBeginning(t *testing.T) {
	for i := range 1 << 24 {
		b := []byte{byte(i >> 16), byte(i >> 8), byte(i)}
		r := codec.NewReader(b)
		n := r.Number()
		good := b[0] <= 247 || b[0] == 248 && b[1] >= 248 || b[0] == 249 && b[1] != 0
		if r.Bad() == good {
			t.Fatalf("%x: Bad %v", b, r.Bad())
		}
		if !good {
			if n != 0 || r.Left() != 0 {
				t.Fatalf("%x: number %d, Left %d", b, n, r.Left())
			}
			continue
		}
		// Only a few of the last bytes are written again: all of them would take long.
		if b[2] < 2 || b[2] > 253 {
			w := codec.NewWriter()
			w.Number(n)
			if laid := w.Bytes(); !bytes.Equal(laid, b[:3-r.Left()]) {
				t.Fatalf("%x: read %d, which is laid as %x", b, n, laid)
			}
		}
	}
}

// P1.3: what was written is read as it was.

func TestReadAsWritten(t *testing.T) {
	w := codec.NewWriter()
	for _, c := range numberForms {
		w.Number(c.n)
		w.Int(int64(c.n))
		w.Text(strings.Repeat("\xff", int(c.n%1000)))
	}
	for _, c := range integerForms {
		w.Int(c.n)
	}
	r := codec.NewReader(w.Bytes())
	for _, c := range numberForms {
		if n := r.Number(); n != c.n {
			t.Errorf("number %d, want %d", n, c.n)
		}
		if n := r.Int(); n != int64(c.n) {
			t.Errorf("integer %d, want %d", n, int64(c.n))
		}
		if s := r.Text(); s != strings.Repeat("\xff", int(c.n%1000)) {
			t.Errorf("text of %d bytes, want %d", len(s), c.n%1000)
		}
	}
	for _, c := range integerForms {
		if n := r.Int(); n != c.n {
			t.Errorf("integer %d, want %d", n, c.n)
		}
	}
	wantGood(t, r, 0)
}

func TestReadAsWrittenAroundPowers(t *testing.T) {
	for bit := range 64 {
		for d := range uint64(600) {
			n := uint64(1)<<bit + d - 300
			w := codec.NewWriter()
			w.Number(n)
			w.Int(int64(n))
			r := codec.NewReader(w.Bytes())
			if got := r.Number(); got != n {
				t.Fatalf("number %d, want %d", got, n)
			}
			if got := r.Int(); got != int64(n) {
				t.Fatalf("integer %d, want %d", got, int64(n))
			}
			if !r.End() {
				t.Fatalf("%d: not at its end", n)
			}
		}
	}
}

func TestEveryTextLength(t *testing.T) {
	all := strings.Repeat("0123456789", 60)
	for size := range len(all) {
		w := codec.NewWriter()
		w.Text(all[:size])
		b := w.Bytes()
		r := codec.NewReader(b)
		if s := r.Text(); s != all[:size] || !r.End() {
			t.Fatalf("length %d: read %q", size, s)
		}
		r = codec.NewReader(b[:len(b)-1])
		if s := r.Text(); s != "" || !r.Bad() {
			t.Fatalf("length %d, cut: read %q", size, s)
		}
	}
}

func TestLongText(t *testing.T) {
	long := strings.Repeat("reeve", 1<<18)
	w := codec.NewWriter()
	w.Text(long)
	w.Text(long)
	r := codec.NewReader(w.Bytes())
	if r.Text() != long || r.Text() != long || !r.End() {
		t.Error("not read as it was written")
	}
}

// R1: nil objects.

func TestNilWriter(t *testing.T) {
	var w *codec.Writer
	w.Number(300)
	w.Int(-1)
	w.Text("ab")
	if b := w.Bytes(); len(b) != 0 {
		t.Errorf("laid %x", b)
	}
}

func TestNilReader(t *testing.T) {
	var r *codec.Reader
	if r.Number() != 0 || r.Int() != 0 || r.Text() != "" || r.Left() != 0 || r.Bad() || r.End() {
		t.Error("a nil reader answers more than zero")
	}
}

// R2: asking changes nothing.

func TestAskingChangesNothing(t *testing.T) {
	r := codec.NewReader([]byte{7, 8})
	for range 3 {
		wantGood(t, r, 2)
	}
	if r.Number() != 7 || r.Number() != 8 {
		t.Error("read otherwise")
	}
}

// R3: memory is not shared, spare room neither.

func TestReaderKeepsNothingOfItsArgument(t *testing.T) {
	room := []byte("\x02ab\x07zz")
	r := codec.NewReader(room[:4])
	copy(room, "\x01xyzzy")
	if s := r.Text(); s != "ab" {
		t.Errorf("text %q", s)
	}
	copy(room, "\xff\xff\xff\xff\xff\xff")
	if n := r.Number(); n != 7 || !r.End() {
		t.Errorf("number %d", n)
	}
}

func TestReaderLeavesItsArgument(t *testing.T) {
	room := []byte("\x02ab\xf8\x05zz")
	r := codec.NewReader(room[:5])
	r.Text()
	r.Number()
	if string(room) != "\x02ab\xf8\x05zz" {
		t.Errorf("became %q", room)
	}
}

func TestBytesAreNewMemory(t *testing.T) {
	w := codec.NewWriter()
	w.Text("ab")
	first, second := w.Bytes(), w.Bytes()
	for i := range first[:cap(first)] {
		first[:cap(first)][i] = 0xee
	}
	if string(second) != "\x02ab" {
		t.Errorf("two answers share memory: %x", second)
	}
	wantLaid(t, w, "026162")
	w.Number(5)
	if spare := first[:cap(first)]; bytes.IndexByte(spare, 5) >= 0 {
		t.Errorf("laid into an answer's spare room: %x", spare)
	}
	if string(second) != "\x02ab" {
		t.Errorf("an answer changed: %x", second)
	}
	wantLaid(t, w, "02616205")
}
