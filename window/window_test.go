package window_test

import (
	"bytes"
	"encoding/hex"
	"math"
	"math/rand"
	"slices"
	"strconv"
	"strings"
	"testing"

	"reeve/api"
	"reeve/codec"
	"reeve/window"
)

// The limits, as DOC.md tells them.
const (
	mostSerials = 4
	mostClients = 64
)

// entry is what should be remembered of a client, the elder serial first.
type entry struct {
	client  uint64
	serials []uint64
}

// edges are numbers around which a number's bytes change their length or their sign.
var edges = []uint64{0, 1, 247, 248, 255, 256, 65535, 65536, 1 << 32, math.MaxInt64, 1 << 63, math.MaxUint64 - 1, math.MaxUint64}

// unhex makes bytes of hexadecimal digits with spaces between.
func unhex(t *testing.T, form string) []byte {
	t.Helper()
	b, err := hex.DecodeString(strings.ReplaceAll(form, " ", ""))
	if err != nil {
		t.Fatalf("%q: %v", form, err)
	}
	return b
}

// someEntries are count clients, 1000 and above, with one to four serials each.
func someEntries(count int) []entry {
	var list []entry
	for at := range count {
		e := entry{client: uint64(1000 + at)}
		for s := range 1 + at%mostSerials {
			e.serials = append(e.serials, uint64(10*at+mostSerials-s))
		}
		list = append(list, e)
	}
	return list
}

// copyOf is the same entries in memory of their own.
func copyOf(list []entry) []entry {
	list = slices.Clone(list)
	for at := range list {
		list[at].serials = slices.Clone(list[at].serials)
	}
	return list
}

// formOf is the bytes of these entries, whether or not a window may hold them.
func formOf(list []entry) []byte {
	w := codec.NewWriter()
	w.Number(uint64(len(list)))
	for _, e := range list {
		w.Number(e.client)
		w.Number(uint64(len(e.serials)))
		for _, s := range e.serials {
			w.Number(s)
		}
	}
	return w.Bytes()
}

// added is what the document asks of Add, of a list of entries: the list behind
// it, in new memory, and the answer.
func added(list []entry, client, serial uint64) ([]entry, bool) {
	list = copyOf(list)
	last := entry{client: client}
	if at := slices.IndexFunc(list, func(e entry) bool { return e.client == client }); at >= 0 {
		if slices.Contains(list[at].serials, serial) {
			return list, false
		}
		last = list[at]
		list = slices.Delete(list, at, at+1)
	}
	last.serials = append(last.serials, serial)
	last.serials = last.serials[max(0, len(last.serials)-mostSerials):]
	list = append(list, last)
	return list[max(0, len(list)-mostClients):], true
}

// with is a window to which these entries were added, one behind the other.
func with(t *testing.T, list []entry) *window.Window {
	t.Helper()
	w := window.New()
	for _, e := range list {
		for _, s := range e.serials {
			wantAdd(t, "with", w, e.client, s, true)
		}
	}
	return w
}

// wantAdd holds an Add against its answer.
func wantAdd(t *testing.T, what string, w *window.Window, client, serial uint64, want bool) {
	t.Helper()
	if ok := w.Add(client, serial); ok != want {
		t.Errorf("%s: Add(%d, %d) is %v", what, client, serial, ok)
	}
}

// wantSeen holds a Seen against its answer.
func wantSeen(t *testing.T, what string, w *window.Window, client, serial uint64, want bool) {
	t.Helper()
	if ok := w.Seen(client, serial); ok != want {
		t.Errorf("%s: Seen(%d, %d) is %v", what, client, serial, ok)
	}
}

// wantSerials holds a client's serials against these.
func wantSerials(t *testing.T, what string, w *window.Window, client uint64, want ...uint64) {
	t.Helper()
	if got := w.Serials(client); !slices.Equal(got, want) {
		t.Errorf("%s: Serials(%d) is %v; not %v", what, client, got, want)
	}
	for _, s := range want {
		wantSeen(t, what, w, client, s, true)
	}
}

// wantClients holds the clients against these.
func wantClients(t *testing.T, what string, w *window.Window, want ...uint64) {
	t.Helper()
	if got := w.Clients(); !slices.Equal(got, want) {
		t.Errorf("%s: Clients is %v; not %v", what, got, want)
	}
}

// wantWindow holds all that a window tells against what it should remember.
func wantWindow(t *testing.T, what string, w *window.Window, want []entry) {
	t.Helper()
	var clients []uint64
	for _, e := range want {
		clients = append(clients, e.client)
		wantSerials(t, what, w, e.client, e.serials...)
	}
	wantClients(t, what, w, clients...)
	if b := w.Encode(); !bytes.Equal(b, formOf(want)) {
		t.Errorf("%s: Encode is %x; not %x", what, b, formOf(want))
	}
}

func mustDecode(t *testing.T, b []byte) *window.Window {
	t.Helper()
	w, e := window.Decode(b)
	if e != api.OK || w == nil {
		t.Fatalf("Decode(%x): %v, %v", b, w, e)
	}
	return w
}

// wantNoWindow holds a Decode against ErrForm, beside which there is no window.
func wantNoWindow(t *testing.T, why string, b []byte) {
	t.Helper()
	if w, e := window.Decode(b); e != api.ErrForm || w != nil {
		t.Errorf("%s: Decode(%x) is %v, %v", why, b, w, e)
	}
}

func TestExamples(t *testing.T) {
	w := window.New()
	wantAdd(t, "first", w, 1, 5, true)
	wantAdd(t, "again", w, 1, 5, false)
	wantSeen(t, "added", w, 1, 5, true)
	for s := range 4 {
		wantAdd(t, "others behind it", w, 1, uint64(6+s), true)
	}
	wantSeen(t, "four others behind it", w, 1, 5, false)
}

func TestLimitsAreTheDocuments(t *testing.T) {
	if api.DedupWindow != mostSerials || api.MaxClients != mostClients {
		t.Errorf("limits: %d, %d", api.DedupWindow, api.MaxClients)
	}
}

// P13.1: New, Seen and Add.

// wantNothing holds a window, or nil, against one that remembers nothing.
func wantNothing(t *testing.T, what string, w *window.Window) {
	t.Helper()
	for _, client := range edges {
		for _, serial := range edges {
			wantSeen(t, what, w, client, serial, false)
		}
		wantSerials(t, what, w, client)
	}
	wantClients(t, what, w)
}

func TestNewRemembersNothing(t *testing.T) {
	w := window.New()
	if w == nil {
		t.Fatal("New is nil")
	}
	wantNothing(t, "new", w)
	wantWindow(t, "new", w, nil)
}

func TestZeroWindowIsAsNew(t *testing.T) {
	var zero window.Window
	wantNothing(t, "zero", &zero)
	wantWindow(t, "zero", &zero, nil)
	var list []entry
	for n := range uint64(3 * mostClients) {
		list, _ = added(list, n%100, n)
		wantAdd(t, "zero", &zero, n%100, n, true)
	}
	wantWindow(t, "zero, filled", &zero, list)
}

func TestAddAtTheEdgesOfNumbers(t *testing.T) {
	for _, client := range edges {
		for _, serial := range edges {
			w := window.New()
			wantAdd(t, "first", w, client, serial, true)
			wantAdd(t, "again", w, client, serial, false)
			wantSeen(t, "added", w, client, serial, true)
			wantSeen(t, "another serial", w, client, serial+1, false)
			wantSeen(t, "another client", w, client+1, serial, false)
			wantWindow(t, "one", w, []entry{{client, []uint64{serial}}})
		}
	}
}

// TestNoughtIsASerialOfItsOwn holds that room that isn't used yet is not told as serials or clients 0.
func TestNoughtIsASerialOfItsOwn(t *testing.T) {
	w := window.New()
	wantSeen(t, "new", w, 0, 0, false)
	wantAdd(t, "another client", w, 1, 1, true)
	wantSeen(t, "another client", w, 0, 0, false)
	wantSeen(t, "another serial", w, 1, 0, false)
	wantSerials(t, "another client", w, 0)
	wantAdd(t, "client 0", w, 0, 0, true)
	wantAdd(t, "client 0 again", w, 0, 0, false)
	wantWindow(t, "client 0", w, []entry{{1, []uint64{1}}, {0, []uint64{0}}})
}

func TestAddOfOneThatIsRememberedChangesNothing(t *testing.T) {
	list := someEntries(mostClients)
	w := with(t, list)
	for range 2 {
		for _, e := range list {
			for _, s := range e.serials {
				wantAdd(t, "remembered", w, e.client, s, false)
			}
			wantWindow(t, "remembered", w, list)
		}
	}
}

// TestAddOfOneThatIsRememberedKeepsTheOrder holds that a serial, and a client, isn't made younger by it.
func TestAddOfOneThatIsRememberedKeepsTheOrder(t *testing.T) {
	w := with(t, []entry{{7, []uint64{1, 2, 3, 4}}})
	wantAdd(t, "the eldest again", w, 7, 1, false)
	wantAdd(t, "a fifth", w, 7, 5, true)
	wantSerials(t, "a fifth", w, 7, 2, 3, 4, 5)

	w = with(t, someEntries(mostClients))
	wantAdd(t, "the eldest client again", w, 1000, someEntries(1)[0].serials[0], false)
	wantAdd(t, "one client more", w, 5, 5, true)
	wantSerials(t, "the eldest client", w, 1000)
	wantWindow(t, "one client more", w, append(someEntries(mostClients)[1:], entry{5, []uint64{5}}))
}

func TestTheLastFourSerialsAreRemembered(t *testing.T) {
	w := window.New()
	for s := range uint64(50) {
		wantAdd(t, "the next", w, 9, 2*s, true)
		for old := range s + 1 {
			wantSeen(t, "in order", w, 9, 2*old, old+mostSerials > s)
			wantSeen(t, "between", w, 9, 2*old+1, false)
		}
	}
	wantSerials(t, "in order", w, 9, 92, 94, 96, 98)
}

// TestTheLastAreThoseAddedLast holds that age counts, and not a serial's size.
func TestTheLastAreThoseAddedLast(t *testing.T) {
	w := with(t, []entry{{1, []uint64{50, math.MaxUint64, 3, 40}}})
	wantSerials(t, "not sorted", w, 1, 50, math.MaxUint64, 3, 40)
	wantAdd(t, "a small one", w, 1, 0, true)
	wantSerials(t, "not sorted", w, 1, math.MaxUint64, 3, 40, 0)
	wantAdd(t, "a great one", w, 1, 99, true)
	wantSerials(t, "not sorted", w, 1, 3, 40, 0, 99)
	wantSeen(t, "the greatest was forgotten", w, 1, math.MaxUint64, false)
}

func TestAForgottenSerialIsAddedAgain(t *testing.T) {
	w := with(t, []entry{{1, []uint64{1, 2, 3, 4, 5}}})
	wantAdd(t, "forgotten", w, 1, 1, true)
	wantSerials(t, "forgotten", w, 1, 3, 4, 5, 1)
	wantAdd(t, "forgotten by that", w, 1, 2, true)
	wantSerials(t, "forgotten", w, 1, 4, 5, 1, 2)
	wantAdd(t, "remembered", w, 1, 4, false)
}

func TestEachClientHasSerialsOfItsOwn(t *testing.T) {
	w := with(t, []entry{{1, []uint64{5}}})
	wantSeen(t, "another client", w, 2, 5, false)
	wantAdd(t, "another client", w, 2, 5, true)
	for s := range uint64(20) {
		wantAdd(t, "many of another", w, 2, 100+s, true)
	}
	wantWindow(t, "many of another", w, []entry{{1, []uint64{5}}, {2, []uint64{116, 117, 118, 119}}})
}

func TestTheLastSixtyFourClientsAreRemembered(t *testing.T) {
	w := window.New()
	for c := range uint64(200) {
		wantAdd(t, "the next", w, c, 7, true)
		for old := range c + 1 {
			wantSeen(t, "in order", w, old, 7, old+mostClients > c)
		}
		if got := len(w.Clients()); got != int(min(c+1, mostClients)) {
			t.Errorf("%d clients behind %d", got, c+1)
		}
	}
}

// TestTheLastClientsAreThoseAddedToLast holds that a client's last Add counts, and not its first.
func TestTheLastClientsAreThoseAddedToLast(t *testing.T) {
	w := with(t, someEntries(mostClients))
	wantAdd(t, "the eldest, a new serial", w, 1000, 777, true)
	want := append(someEntries(mostClients)[1:], entry{1000, []uint64{4, 777}})
	wantWindow(t, "the eldest is the last", w, want)
	wantAdd(t, "one client more", w, 5, 5, true)
	wantSerials(t, "the second was forgotten", w, 1001)
	wantWindow(t, "one client more", w, append(want[1:], entry{5, []uint64{5}}))
}

func TestOneInTheMidstIsTheLastOne(t *testing.T) {
	for at := range mostClients {
		list := someEntries(mostClients)
		w := with(t, list)
		wantAdd(t, "in the midst", w, list[at].client, 5, true)
		want, _ := added(list, list[at].client, 5)
		wantWindow(t, "in the midst", w, want)
	}
}

// TestAForgottenClientIsANewOne holds that of its old serials nothing comes back.
func TestAForgottenClientIsANewOne(t *testing.T) {
	w := with(t, []entry{{1, []uint64{1, 2, 3, 4}}})
	for c := range uint64(mostClients) {
		wantAdd(t, "others", w, 100+c, 1, true)
	}
	wantSerials(t, "forgotten", w, 1)
	wantSeen(t, "forgotten", w, 1, 4, false)
	wantAdd(t, "forgotten", w, 1, 4, true)
	wantSerials(t, "back again", w, 1, 4)
	for s := range uint64(3) {
		wantSeen(t, "back again", w, 1, 1+s, false)
	}
	wantSerials(t, "the first of the others", w, 100)
	wantSerials(t, "the second of the others", w, 101, 1)
}

func TestSeenChangesNothing(t *testing.T) {
	list := someEntries(mostClients)
	w := with(t, list)
	for range 3 {
		for _, e := range list {
			wantSeen(t, "remembered", w, e.client, e.serials[0], true)
			wantSeen(t, "not remembered", w, e.client, 5555, false)
			wantSeen(t, "no client", w, 5555, e.serials[0], false)
			wantSerials(t, "no client", w, 5555)
		}
	}
	wantWindow(t, "behind Seen", w, list)
}

// TestAgainstAListOfEntries goes through histories with few and many clients and serials.
func TestAgainstAListOfEntries(t *testing.T) {
	r := rand.New(rand.NewSource(31))
	for _, clients := range []int{1, 2, 5, mostClients - 1, mostClients, mostClients + 1, 2 * mostClients} {
		for _, serials := range []int{1, 4, 5, 6, 12} {
			w := window.New()
			var list []entry
			for range 600 {
				client, serial := uint64(r.Intn(clients)), uint64(r.Intn(serials))
				next, want := added(list, client, serial)
				wantSeen(t, "any", w, client, serial, !want)
				wantAdd(t, "any", w, client, serial, want)
				list = next
				if r.Intn(10) == 0 {
					wantWindow(t, "any", w, list)
				}
			}
			wantWindow(t, "any", w, list)
			if t.Failed() {
				t.Fatalf("%d clients, %d serials", clients, serials)
			}
		}
	}
}

// P13.2: Serials and Clients.

func TestSerialsTheElderFirst(t *testing.T) {
	w := window.New()
	var all []uint64
	for _, s := range edges {
		all = append(all, s)
		wantAdd(t, "edges", w, 3, s, true)
		wantSerials(t, "edges", w, 3, all[max(0, len(all)-mostSerials):]...)
	}
}

func TestSerialsOfOneThatIsNoClient(t *testing.T) {
	w := with(t, someEntries(3))
	for _, client := range append(edges, 999, 1003) {
		wantSerials(t, "no client", w, client)
	}
}

func TestClientsWhoWasLastAddedToLast(t *testing.T) {
	w := window.New()
	for _, c := range []uint64{9, 2, 7} {
		wantAdd(t, "new", w, c, 1, true)
	}
	wantClients(t, "not sorted", w, 9, 2, 7)
	wantAdd(t, "the first", w, 9, 2, true)
	wantClients(t, "the first", w, 2, 7, 9)
	wantAdd(t, "the middle one", w, 7, 2, true)
	wantClients(t, "the middle one", w, 2, 9, 7)
	wantAdd(t, "the last", w, 7, 3, true)
	wantClients(t, "the last", w, 2, 9, 7)
	wantAdd(t, "remembered", w, 2, 1, false)
	wantClients(t, "remembered", w, 2, 9, 7)
}

// P13.3: as bytes.

// forms holds what should be remembered beside its bytes.
var forms = []struct {
	list []entry
	form string
}{
	{nil, "00"},
	{[]entry{{0, []uint64{0}}}, "01 00 01 00"},
	{[]entry{{2, []uint64{9}}, {1, []uint64{3, 4, 5, 6}}}, "02 02 01 09 01 04 03 04 05 06"},
	{[]entry{{248, []uint64{300, 247}}}, "01 f8f8 02 f9012c f7"},
	{[]entry{{math.MaxUint64, []uint64{math.MaxUint64, 0, 1 << 63}}, {0, []uint64{5}}},
		"02 ffffffffffffffffff 03 ffffffffffffffffff 00 ff8000000000000000 00 01 05"},
	{[]entry{{3, []uint64{9, 8, 7, 6}}, {2, []uint64{9}}, {1, []uint64{9, 8}}}, "03 03 04 09 08 07 06 02 01 09 01 02 09 08"},
}

func TestEncodeIsTheFormOfAll(t *testing.T) {
	for _, x := range forms {
		if b := with(t, x.list).Encode(); !bytes.Equal(b, unhex(t, x.form)) {
			t.Errorf("Encode of %v is %x; not %s", x.list, b, x.form)
		}
	}
}

func TestEncodeTellsOnlyWhatIsRemembered(t *testing.T) {
	w := with(t, []entry{{1, []uint64{1, 2, 3, 4, 5, 6}}})
	if b := w.Encode(); string(b) != "\x01\x01\x04\x03\x04\x05\x06" {
		t.Errorf("Encode is %x", b)
	}
	want := someEntries(mostClients)
	for _, e := range want {
		for _, s := range e.serials {
			wantAdd(t, "others", w, e.client, s, true)
		}
	}
	if b := w.Encode(); !bytes.Equal(b, formOf(want)) {
		t.Errorf("Encode is %x; not %x", b, formOf(want))
	}
}

// TestEncodeTellsTheStateAlone holds that two ways to the same state have the same bytes.
func TestEncodeTellsTheStateAlone(t *testing.T) {
	long := with(t, []entry{{8, []uint64{9, 1, 2, 3, 4}}, {7, []uint64{1}}})
	wantAdd(t, "long", long, 8, 5, true)
	short := with(t, []entry{{7, []uint64{1}}, {8, []uint64{2, 3, 4, 5}}})
	if !bytes.Equal(long.Encode(), short.Encode()) {
		t.Errorf("%x and %x", long.Encode(), short.Encode())
	}
}

func TestDecodeIsThatWindow(t *testing.T) {
	for _, x := range forms {
		wantWindow(t, "a form", mustDecode(t, unhex(t, x.form)), x.list)
	}
	for count := range mostClients + 1 {
		list := someEntries(count)
		wantWindow(t, "some", mustDecode(t, formOf(list)), list)
	}
}

func TestDecodeOfAllCountsOfSerials(t *testing.T) {
	for count := range 2 * mostSerials {
		list := someEntries(3)
		list[1].serials = nil
		for s := range count {
			list[1].serials = append(list[1].serials, uint64(500-s))
		}
		if count == 0 || count > mostSerials {
			wantNoWindow(t, "too few or too many serials", formOf(list))
		} else {
			wantWindow(t, "so many serials", mustDecode(t, formOf(list)), list)
		}
	}
}

func TestADecodedWindowGoesOn(t *testing.T) {
	r := rand.New(rand.NewSource(32))
	for _, count := range []int{0, 1, 2, mostClients - 1, mostClients} {
		list := someEntries(count)
		w := mustDecode(t, formOf(list))
		for range 400 {
			client, serial := uint64(1000+r.Intn(2*mostClients)), uint64(r.Intn(10*count+5))
			next, want := added(list, client, serial)
			wantAdd(t, "decoded", w, client, serial, want)
			list = next
		}
		wantWindow(t, "decoded", w, list)
	}
}

func TestDecodeOfMoreThanAreRemembered(t *testing.T) {
	for _, count := range []int{mostClients + 1, mostClients + 2, 2 * mostClients, 247, 248, 256, 256 + mostClients, 65536 + 1} {
		wantNoWindowOf(t, count)
	}
}

// wantNoWindowOf holds a Decode of that many clients against ErrForm.
func wantNoWindowOf(t *testing.T, count int) {
	t.Helper()
	if w, e := window.Decode(formOf(someEntries(count))); e != api.ErrForm || w != nil {
		t.Errorf("Decode of %d clients is %v, %v", count, w, e)
	}
}

func TestDecodeOfSomethingTwice(t *testing.T) {
	for at := range mostClients - 1 {
		list := someEntries(mostClients)
		list[mostClients-1].client = list[at].client
		wantNoWindow(t, "a client twice", formOf(list))
	}
	wantNoWindow(t, "a client twice, with the same serials", unhex(t, "02 01 01 05 01 01 05"))
	wantNoWindow(t, "client 0 twice", unhex(t, "02 00 01 05 00 01 06"))
	for first := range mostSerials {
		for second := range first {
			list := []entry{{1, []uint64{10, 20, 30, 40}}}
			list[0].serials[first] = list[0].serials[second]
			wantNoWindow(t, "a serial twice", formOf(list))
		}
	}
	same := []entry{{1, []uint64{5, 6}}, {2, []uint64{5, 6}}, {5, []uint64{1, 2, 5}}}
	wantWindow(t, "the same serials of other clients", mustDecode(t, formOf(same)), same)
}

func TestDecodeOfOtherBytes(t *testing.T) {
	wantNoWindow(t, "nil", nil)
	others := []struct {
		why  string
		form string
	}{
		{"nothing", ""},
		{"the count is no number", "f800"},
		{"the count has a second form", "f801 01 01 05"},
		{"none, and a byte behind", "00 00"},
		{"none, and a client behind", "00 01 01 05"},
		{"one, and nothing behind", "01"},
		{"one, and its number alone", "01 01"},
		{"one, and no serial", "01 02 00"},
		{"client 0 without serials", "01 00 00"},
		{"one with a serial, one without", "02 01 01 05 02 00"},
		{"one without a serial, one with", "02 02 00 01 01 05"},
		{"one serial is said, none is there", "01 01 01"},
		{"two serials are said, one is there", "01 01 02 05"},
		{"one serial is said, two are there", "01 01 01 05 06"},
		{"one, and two are there", "01 01 01 05 02 01 06"},
		{"two, and one is there", "02 01 01 05"},
		{"five serials", "01 01 05 01 02 03 04 05"},
		{"five are said, four are there", "01 01 05 01 02 03 04"},
		{"2^64 - 1 clients", "ffffffffffffffffff 01 01 05"},
		{"2^64 - 1 serials", "01 01 ffffffffffffffffff 05"},
		{"2^32 + 1 serials", "01 01 fc0100000001 05"},
		{"2^32 + 1 clients", "fc0100000001 01 01 05"},
		{"256 + 1 serials", "01 01 f90101 05"},
		{"the client is no number", "01 f805 01 05"},
		{"how many serials is no number", "01 01 f801 05"},
		{"the serial is no number", "01 01 01 f805"},
		{"the serial ends too early", "01 01 01 f9 01"},
		{"the second serial is no number", "01 01 02 05 f900ff"},
	}
	for _, x := range others {
		wantNoWindow(t, x.why, unhex(t, x.form))
	}
}

func TestDecodeOfLessOrMore(t *testing.T) {
	b := formOf(someEntries(mostClients))
	for size := range b {
		wantNoWindow(t, "a beginning", b[:size])
	}
	for _, more := range []byte{0, 1, 0xf7, 0xf8, 0xff} {
		wantNoWindow(t, "a byte behind", append(slices.Clone(b), more))
	}
	for _, count := range []byte{0, 1, mostClients - 1, mostClients + 1, 247} {
		wantNoWindow(t, "another count", append([]byte{count}, b[1:]...))
	}
}

// entriesOf reads the entries of bytes, in a way of its own; false, if a window never tells them.
func entriesOf(b []byte) ([]entry, bool) {
	r := codec.NewReader(b)
	var list []entry
	serials := map[uint64]int{}
	for n := r.Number(); n > 0 && !r.Bad(); n-- {
		e := entry{client: r.Number()}
		for m := r.Number(); m > 0 && !r.Bad(); m-- {
			e.serials = append(e.serials, r.Number())
		}
		alone := slices.Compact(slices.Sorted(slices.Values(e.serials)))
		if _, again := serials[e.client]; again || len(alone) != len(e.serials) {
			return nil, false
		}
		serials[e.client] = len(e.serials)
		if len(e.serials) < 1 || len(e.serials) > mostSerials {
			return nil, false
		}
		list = append(list, e)
	}
	return list, r.End() && len(list) <= mostClients
}

// wantDecode holds a Decode against entriesOf, and tells whether there is a window.
func wantDecode(t *testing.T, b []byte) bool {
	t.Helper()
	list, ok := entriesOf(b)
	if !ok {
		wantNoWindow(t, "no window's", b)
		return false
	}
	w := mustDecode(t, b)
	wantWindow(t, "a window's", w, list)
	if !bytes.Equal(w.Encode(), b) {
		t.Errorf("%x came back as %x", b, w.Encode())
	}
	return true
}

// TestDecodeOfAllShortBytes goes through all bytes of at most seven small numbers.
func TestDecodeOfAllShortBytes(t *testing.T) {
	good := 0
	var walk func(b []byte)
	walk = func(b []byte) {
		if wantDecode(t, b) {
			good++
		}
		for x := byte(0); x < 4 && len(b) < 7 && !t.Failed(); x++ {
			walk(append(b, x))
		}
	}
	walk(nil)
	// One window of none. 4 clients with 1 of 4 serials, with 2, with 3 of them in any
	// order. Two clients with one serial each.
	if want := 1 + 4*4 + 4*12 + 4*24 + 12*4*4; good != want {
		t.Errorf("%d windows; not %d", good, want)
	}
}

// TestDecodeOfNearlyRightBytes changes one byte, or none, of windows of all kinds.
func TestDecodeOfNearlyRightBytes(t *testing.T) {
	r := rand.New(rand.NewSource(33))
	good := 0
	for range 10000 {
		var list []entry
		for range r.Intn(40) {
			list, _ = added(list, uint64(r.Intn(12)), r.Uint64()>>r.Intn(64))
		}
		b := formOf(list)
		if r.Intn(4) > 0 {
			b[r.Intn(len(b))] ^= byte(1 << r.Intn(8))
		}
		if wantDecode(t, b) {
			good++
		}
		if t.Failed() {
			return
		}
	}
	if good < 1000 || good > 9000 {
		t.Errorf("%d windows", good)
	}
}

func TestDecodeUndoesEncode(t *testing.T) {
	r := rand.New(rand.NewSource(34))
	for range 300 {
		w := window.New()
		var list []entry
		for range r.Intn(500) {
			client, serial := uint64(r.Intn(100))*(math.MaxUint64/99), r.Uint64()>>r.Intn(64)
			w.Add(client, serial)
			list, _ = added(list, client, serial)
		}
		wantWindow(t, "there and back", mustDecode(t, w.Encode()), list)
	}
}

// R1: nil.

func TestNilWindow(t *testing.T) {
	var none *window.Window
	for range 2 {
		wantNothing(t, "nil", none)
		if b := none.Encode(); len(b) != 0 {
			t.Errorf("Encode of nil is %x", b)
		}
		for _, n := range edges {
			wantAdd(t, "nil", none, n, n, false)
		}
	}
}

// R2: the object's history alone.

func TestEachWindowIsForItself(t *testing.T) {
	a, b := window.New(), window.New()
	wantAdd(t, "a", a, 1, 5, true)
	wantNothing(t, "b", b)
	wantAdd(t, "b", b, 1, 5, true)
	wantAdd(t, "b", b, 1, 6, true)
	wantWindow(t, "a", a, []entry{{1, []uint64{5}}})
	form := formOf(someEntries(3))
	c, d := mustDecode(t, form), mustDecode(t, form)
	wantAdd(t, "c", c, 1000, 77, true)
	wantWindow(t, "d", d, someEntries(3))
}

func TestACopyOfAWindowIsForItself(t *testing.T) {
	for _, count := range []int{0, 3, mostClients} {
		list := someEntries(count)
		first := with(t, list)
		second := *first
		for n := range uint64(9) {
			wantAdd(t, "first", first, 1000, 700+n, true)
		}
		wantWindow(t, "second", &second, list)
		wantAdd(t, "second", &second, 4, 4, true)
		wantSeen(t, "first", first, 4, 4, false)
	}
}

func TestAnswersStayTheSame(t *testing.T) {
	list := someEntries(mostClients)
	w := with(t, list)
	for n := range 3 {
		wantWindow(t, "again, "+strconv.Itoa(n), w, list)
		wantWindow(t, "decoded again, "+strconv.Itoa(n), mustDecode(t, formOf(list)), list)
	}
}

// R3: memory.

// fill overwrites a list and its spare room.
func fill[T byte | uint64](list []T) {
	list = list[:cap(list)]
	for at := range list {
		list[at] = 0xee
	}
}

func TestSerialsAreNewMemory(t *testing.T) {
	list := someEntries(mostClients)
	w := with(t, list)
	for _, e := range list {
		other := w.Serials(e.client)
		fill(w.Serials(e.client))
		if !slices.Equal(other, e.serials) {
			t.Errorf("two answers of Serials share memory: %v", other)
		}
	}
	wantWindow(t, "Serials' answers were filled", w, list)
	kept := w.Serials(1003)
	for n := range uint64(9) {
		wantAdd(t, "behind Serials", w, 1003, 900+n, true)
	}
	if !slices.Equal(kept, list[3].serials) {
		t.Errorf("an Add changed what Serials told: %v", kept)
	}
}

func TestClientsAreNewMemory(t *testing.T) {
	list := someEntries(mostClients)
	w := with(t, list)
	kept := w.Clients()
	fill(w.Clients())
	wantWindow(t, "Clients' answer was filled", w, list)
	wantAdd(t, "behind Clients", w, 1, 1, true)
	for at, e := range list {
		if kept[at] != e.client {
			t.Errorf("an Add or another answer changed what Clients told: %v", kept)
		}
	}
}

func TestEncodeIsNewMemory(t *testing.T) {
	list := someEntries(mostClients)
	w := with(t, list)
	other := w.Encode()
	fill(w.Encode())
	wantWindow(t, "Encode's answer was filled", w, list)
	if !bytes.Equal(other, formOf(list)) {
		t.Errorf("two answers of Encode share memory: %x", other)
	}
}

func TestDecodedBytesStayAsTheyAreAndAreNotKept(t *testing.T) {
	list := someEntries(mostClients)
	room := append(formOf(list), 9, 9, 9)
	was := slices.Clone(room)
	b := room[:len(room)-3]
	w := mustDecode(t, b)
	wantNoWindow(t, "more", room)
	if !bytes.Equal(room, was) {
		t.Errorf("changed: %x; not %x", room, was)
	}
	fill(b)
	wantWindow(t, "the bytes were filled", w, list)
}

// R4: lists of no elements.

func TestNoBytesAreNilOrEmpty(t *testing.T) {
	for _, b := range [][]byte{nil, {}, make([]byte, 0, 9), []byte{1, 2}[:0]} {
		wantNoWindow(t, "no bytes", b)
	}
}
