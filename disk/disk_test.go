package disk

import (
	"encoding/binary"
	"hash/crc32"
	"math"
	"slices"
	"strings"
	"testing"

	"consort/api"
)

// sealed: s, and its sum, as the library has it, behind it.
func sealed(s string) string {
	return s + string(binary.LittleEndian.AppendUint32(nil, crc32.ChecksumIEEE([]byte(s))))
}

// head: what stands ahead of a record of so many bytes.
func head(number uint64, length int) string {
	b := binary.BigEndian.AppendUint64(nil, number)
	return string(binary.BigEndian.AppendUint16(b, uint16(length)))
}

// full: all bytes of the record s.
func full(number uint64, s string) string { return sealed(head(number, len(s)) + s) }

// noise: n bytes that look like chance, the same ones each time.
func noise(n int, seed uint32) string {
	b := make([]byte, n)
	for i := range b {
		seed = seed*1664525 + 1013904223
		b[i] = byte(seed >> 24)
	}
	return string(b)
}

// call: a Write, or a Tear that keeps so many.
type call struct {
	s    string
	torn bool
	keep int
}

// told: a disk as the chapter's words have it. It keeps the calls that were answered OK, and works out each answer anew from them: whole records go to the two slots by turns, and torn ones to where the next whole one goes.
type told struct{ row []call }

// tell: the call is made; what it answers.
func (m *told) tell(c call) api.Errno {
	if len(c.s) > 8192 {
		return 3
	}
	m.row = append(m.row, c)
	return 0
}

// ahead: how many whole ones are ahead of the call k.
func (m *told) ahead(k int) int {
	n := 0
	for _, c := range m.row[:k] {
		if !c.torn {
			n++
		}
	}
	return n
}

func (m *told) read() (string, bool) {
	for _, c := range slices.Backward(m.row) {
		if !c.torn {
			return c.s, true
		}
	}
	return "", false
}

func (m *told) slot(i int) string {
	for k, c := range slices.Backward(m.row) {
		if n := m.ahead(k); n%2 == i {
			return c.left(full(uint64(n)+1, c.s))
		}
	}
	return ""
}

// left: what the call leaves of these bytes.
func (c call) left(b string) string {
	switch {
	case !c.torn:
		return b
	case c.keep < 1:
		return ""
	case c.keep >= len(b):
		return b[:len(b)-1]
	}
	return b[:c.keep]
}

func (m *told) copy() *told { return &told{row: slices.Clone(m.row)} }

// short: the first bytes of s, to be told of.
func short(s string) string { return s[:min(len(s), 40)] }

// same: whether d answers as m does, and twice, since an answer leaves the disk as it is.
func same(t *testing.T, d *Disk, m *told, what string) {
	t.Helper()
	want, there := m.read()
	for range 2 {
		if s, ok := d.Read(); s != want || ok != there {
			t.Fatalf("%s: Read() = %q of %d bytes, %v, want %q of %d, %v", what, short(s), len(s), ok, short(want), len(want), there)
		}
		for i := -1; i <= 2; i++ {
			if s := d.Slot(i); s != m.slot(i) {
				t.Fatalf("%s: Slot(%d) = %x of %d bytes, want %x of %d", what, i, short(s), len(s), short(m.slot(i)), len(m.slot(i)))
			}
		}
	}
}

// do: the call is made on both, and both answer the same.
func do(t *testing.T, d *Disk, m *told, c call) {
	t.Helper()
	want := m.tell(c)
	got := api.OK
	if c.torn {
		got = d.Tear(c.s, c.keep)
	} else {
		got = d.Write(c.s)
	}
	if got != want {
		t.Fatalf("%d bytes, torn %v, keep %d: %v, want %v", len(c.s), c.torn, c.keep, got, want)
	}
}

func write(s string) call          { return call{s: s} }
func tear(s string, keep int) call { return call{s: s, torn: true, keep: keep} }

// both: a disk and what it was told: these calls.
func both(t *testing.T, row ...call) (*Disk, *told) {
	t.Helper()
	d, m := New(), &told{}
	for _, c := range row {
		do(t, d, m, c)
	}
	return d, m
}

// states: what a disk may have been told ahead: none whole, one, both, and torn ones in each slot, long and short.
func states() [][]call {
	return [][]call{
		nil,
		{tear("t", 5)},
		{tear("t", 99)},
		{tear("", 0), tear("u", 14), tear("t", 4)},
		{write("a")},
		{write("")},
		{tear("t", 3), write("a")},
		{write("a"), tear("t", 14)},
		{write("a"), tear("t", 0), tear("u", 99)},
		{write("a"), write("b")},
		{write("a"), tear("t", 7), write("b")},
		{write("a"), write("b"), tear("t", 13)},
		{write("a"), write("b"), write("")},
		{write("a"), write("b"), write("c"), tear("t", 15)},
		{write(strings.Repeat("x", 8192)), write(strings.Repeat("y", 8192))},
	}
}

// texts: of the lengths at which something is another way.
func texts() []string {
	var out []string
	for _, n := range []int{0, 1, 2, 3, 4, 10, 14, 255, 256, 257, 4096, 8190, 8191, 8192} {
		out = append(out, noise(n, uint32(n)), strings.Repeat("\x00", n), strings.Repeat("\xff", n))
	}
	return out
}

// far: numbers that are no slot's, and of bytes that no record has.
var far = []int{math.MinInt, math.MinInt + 1, -1 << 32, -1<<32 + 1, -8206, -3, -2, 8207, 1 << 16, 1 << 32, 1<<32 + 1, math.MaxInt - 1, math.MaxInt}

// P8.1: Write.

func TestWriteStandsAsTheRecordsBytes(t *testing.T) {
	d := New()
	if e := d.Write("123456789"); e != api.OK {
		t.Fatal(e)
	}
	if want := sealed("\x00\x00\x00\x00\x00\x00\x00\x01\x00\x09123456789"); d.Slot(0) != want || d.Slot(1) != "" {
		t.Errorf("%x, %x, want %x and none", d.Slot(0), d.Slot(1), want)
	}
	long := strings.Repeat("z", 258)
	d.Write(long)
	if want := sealed("\x00\x00\x00\x00\x00\x00\x00\x02\x01\x02" + long); d.Slot(1) != want {
		t.Errorf("%x, want %x", d.Slot(1), want)
	}
}

func TestWriteOfEachLength(t *testing.T) {
	for _, row := range states() {
		for _, s := range texts() {
			d, m := both(t, row...)
			do(t, d, m, write(s))
			same(t, d, m, "written once")
			do(t, d, m, write(s))
			same(t, d, m, "written twice")
			do(t, d, m, write("behind it"))
			same(t, d, m, "written, and another one")
		}
	}
}

func TestWhichSlotIsWritten(t *testing.T) {
	for _, x := range []struct {
		what string
		row  []call
		want int
		numb byte
	}{
		{"a new disk", nil, 0, 1},
		{"none whole, the first one torn", []call{tear("t", 9)}, 0, 1},
		{"none whole, torn three times", []call{tear("t", 9), tear("t", 1), tear("t", 14)}, 0, 1},
		{"the first one whole", []call{write("a")}, 1, 2},
		{"the first one whole, the second torn", []call{write("a"), tear("t", 9)}, 1, 2},
		{"the first one whole, the second torn twice", []call{write("a"), tear("t", 9), tear("t", 0)}, 1, 2},
		{"both whole, the second newest", []call{write("a"), write("b")}, 0, 3},
		{"the second one whole, the first torn", []call{write("a"), write("b"), tear("t", 9)}, 0, 3},
		{"both whole, the first newest", []call{write("a"), write("b"), write("c")}, 1, 4},
		{"the first one newest, the second torn", []call{write("a"), write("b"), write("c"), tear("t", 99)}, 1, 4},
		{"alike records", []call{write("a"), write("a")}, 0, 3},
	} {
		for _, torn := range []bool{false, true} {
			d, m := both(t, x.row...)
			other := d.Slot(1 - x.want)
			do(t, d, m, call{s: "new", torn: torn, keep: 10})
			want := full(uint64(x.numb), "new")
			if torn {
				want = want[:10]
			}
			if d.Slot(x.want) != want || d.Slot(1-x.want) != other {
				t.Errorf("%s, torn %v: the slots are %x and %x", x.what, torn, d.Slot(0), d.Slot(1))
			}
		}
	}
}

func TestNumbersGoUpByOne(t *testing.T) {
	d := New()
	for k := 1; k <= 66000; k++ {
		s := strings.Repeat("x", k%3)
		if e := d.Write(s); e != api.OK || d.Slot((k-1)%2) != full(uint64(k), s) {
			t.Fatalf("the record %d: %v, %x and %x", k, e, d.Slot(0), d.Slot(1))
		}
	}
}

func TestWriteAndTearOfRecordsThatAreTooLong(t *testing.T) {
	for _, n := range []int{8193, 8194, 8206, 8207, 16384, 65535, 65536, 65537, 65536 + 8192, 1 << 20} {
		long := strings.Repeat("x", n)
		for _, row := range states() {
			d, m := both(t, row...)
			if e := d.Write(long); e != api.ErrLong {
				t.Fatalf("Write of %d bytes: %v", n, e)
			}
			same(t, d, m, "refused of Write")
			for _, keep := range []int{math.MinInt, -1, 0, 1, 9, 8192, n, math.MaxInt} {
				if e := d.Tear(long, keep); e != api.ErrLong {
					t.Fatalf("Tear of %d bytes, keep %d: %v", n, keep, e)
				}
			}
			same(t, d, m, "refused of Tear")
			do(t, d, m, write("behind it"))
			same(t, d, m, "written behind what was refused")
		}
	}
}

// P8.1: Tear.

func TestTearKeepsTheFirstBytes(t *testing.T) {
	d := New()
	d.Write("a")
	all := full(2, "zz")
	for _, x := range []struct {
		keep int
		want string
	}{
		{math.MinInt, ""}, {-1, ""}, {0, ""}, {1, "\x00"}, {7, all[:7]}, {8, all[:8]}, {9, all[:9]}, {10, all[:10]}, {11, all[:11]}, {12, all[:12]},
		{13, all[:13]}, {14, all[:14]}, {15, all[:15]}, {16, all[:15]}, {17, all[:15]}, {1 << 32, all[:15]}, {math.MaxInt, all[:15]},
	} {
		if e := d.Tear("zz", x.keep); e != api.OK || d.Slot(1) != x.want || d.Slot(0) != full(1, "a") {
			t.Errorf("Tear(zz, %d): %v, %x and %x, want %x", x.keep, e, d.Slot(0), d.Slot(1), x.want)
		}
	}
}

// keeps: how many bytes of a record of n are kept here: each number that is near of an edge.
func keeps(n int) []int {
	l := slices.Clone(far)
	for _, edge := range []int{0, 10, 14, n, n + 10, n + 14} {
		for k := edge - 2; k <= edge+2; k++ {
			l = append(l, k)
		}
	}
	return l
}

func TestTearOfEachLength(t *testing.T) {
	for _, row := range states()[:14] {
		for _, s := range texts() {
			d, m := both(t, row...)
			for _, keep := range keeps(len(s)) {
				do(t, d, m, tear(s, keep))
				if i := m.ahead(len(m.row)) % 2; d.Slot(i) != m.slot(i) {
					t.Fatalf("%d bytes, of which %d are kept: Slot(%d) = %x", len(s), keep, i, short(d.Slot(i)))
				}
			}
			same(t, d, m, "torn many times")
			do(t, d, m, write(s))
			same(t, d, m, "written behind what was torn")
		}
	}
}

func TestTearAtEachPlaceIsNeverWhole(t *testing.T) {
	for _, row := range states()[:14] {
		for _, s := range []string{"", "\x00", "ab", "\xff\xff\xff\xff", noise(30, 7)} {
			for keep := -3; keep <= len(s)+17; keep++ {
				d, m := both(t, row...)
				do(t, d, m, tear(s, keep))
				same(t, d, m, "torn")
				do(t, d, m, tear(s+"x", keep-1))
				same(t, d, m, "torn twice")
				do(t, d, m, write(s))
				same(t, d, m, "written behind what was torn")
			}
		}
	}
}

// P8.2: Read and Slot.

func TestANewDiskIsEmpty(t *testing.T) {
	same(t, New(), &told{}, "a new disk")
	if s, ok := New().Read(); s != "" || ok {
		t.Errorf("Read() = %q, %v", s, ok)
	}
}

func TestReadOfAnEmptyRecordAndOfNone(t *testing.T) {
	d := New()
	d.Tear("", 13)
	if s, ok := d.Read(); s != "" || ok {
		t.Errorf("torn: %q, %v", s, ok)
	}
	d.Write("")
	if s, ok := d.Read(); s != "" || !ok {
		t.Errorf("written: %q, %v", s, ok)
	}
}

func TestReadOfTheExample(t *testing.T) {
	d := New()
	d.Write("a")
	d.Tear("b", 5)
	if s, ok := d.Read(); s != "a" || !ok {
		t.Errorf("%q, %v", s, ok)
	}
	d.Write("c")
	if s, ok := d.Read(); s != "c" || !ok {
		t.Errorf("%q, %v", s, ok)
	}
}

func TestSlotOfNumbersThatAreNone(t *testing.T) {
	for _, row := range states() {
		d, m := both(t, row...)
		for _, i := range append([]int{-1, 2, 3, 14}, far...) {
			if s := d.Slot(i); s != "" {
				t.Errorf("Slot(%d) = %x", i, s)
			}
		}
		same(t, d, m, "asked for what is no slot")
	}
}

// What no row of calls brings about, by the chapter's words of slots: sums that are right, of what isn't a record, and numbers that are alike or far apart.
func TestWhichSlotIsNewest(t *testing.T) {
	const none = -1
	a, one := full(5, "a"), head(5, 1)
	for _, x := range []struct {
		what string
		both slots
		want int
		text string
	}{
		{"both empty", slots{}, none, ""},
		{"the first one whole", slots{a, ""}, 0, "a"},
		{"the second one whole", slots{"", a}, 1, "a"},
		{"the first one greater", slots{full(6, "b"), a}, 0, "b"},
		{"the second one greater", slots{a, full(6, "b")}, 1, "b"},
		{"of one number", slots{a, full(5, "b")}, 0, "a"},
		{"of one number, and the other way round", slots{full(5, "b"), a}, 0, "b"},
		{"greater by far", slots{full(9, "a"), full(11, "b")}, 1, "b"},
		{"of two bytes", slots{full(255, "a"), full(256, "b")}, 1, "b"},
		{"of five bytes", slots{full(1<<32, "a"), full(1<<32-1, "b")}, 0, "a"},
		{"as if below 0", slots{full(1<<63-1, "a"), full(1<<63, "b")}, 1, "b"},
		{"the greatest number", slots{full(math.MaxUint64, "a"), full(1, "b")}, 0, "a"},
		{"the number 0", slots{full(0, "a"), ""}, 0, "a"},
		{"the number 0 in the second one", slots{"", full(0, "a")}, 1, "a"},
		{"the number 0 twice", slots{full(0, "a"), full(0, "b")}, 0, "a"},
		{"the sum of nothing", slots{sealed(""), ""}, none, ""},
		{"no length", slots{sealed(head(5, 0)[:8]), ""}, none, ""},
		{"half a length", slots{sealed(head(5, 0)[:9]), ""}, none, ""},
		{"the length tells of more", slots{sealed(head(5, 2) + "a"), ""}, none, ""},
		{"the length tells of more than there may be", slots{sealed(head(5, 65535) + "a"), ""}, none, ""},
		{"the length tells of less", slots{sealed(head(5, 0) + "a"), ""}, none, ""},
		{"the length's bytes are the other way round", slots{sealed("\x00\x00\x00\x00\x00\x00\x00\x05\x01\x00a"), ""}, none, ""},
		{"greater, but of another length", slots{a, sealed(head(6, 2) + "a")}, 0, "a"},
		{"greater, but of another sum", slots{a, full(6, "b")[:14] + "\x00"}, 0, "a"},
		{"greater, but one byte too many", slots{full(6, "b") + "\x00", a}, 1, "a"},
		{"without a sum", slots{one + "a", ""}, none, ""},
		{"one byte too many ahead", slots{"\x00" + a, ""}, none, ""},
	} {
		d := &Disk{slots: x.both}
		if s, ok := d.Read(); s != x.text || ok != (x.want != none) {
			t.Errorf("%s: Read() = %q, %v, want %q of the slot %d", x.what, s, ok, x.text, x.want)
		}
		if i, _, ok := x.both.newest(); ok && i != x.want {
			t.Errorf("%s: the newest one is %d, want %d", x.what, i, x.want)
		}
	}
}

func TestAByteThatIsTurnedIsNotWhole(t *testing.T) {
	old, s := full(1, "old"), full(2, "new one")
	for at := range len(s) {
		for mask := 1; mask < 256; mask++ {
			b := []byte(s)
			b[at] ^= byte(mask)
			d := &Disk{slots: slots{old, string(b)}}
			if r, ok := d.Read(); r != "old" || !ok {
				t.Fatalf("turned at %d by %02x: %q, %v", at, mask, r, ok)
			}
		}
	}
}

// P8.2: Copy.

func TestACopyAndWhatItWasCopiedOfGoTheirOwnWays(t *testing.T) {
	next := []call{write("x"), write(""), tear("y", 14), tear("", 3), write(strings.Repeat("z", 8192)), write(strings.Repeat("z", 8193))}
	for _, row := range states() {
		for _, c := range next {
			for _, e := range next {
				d, m := both(t, row...)
				d2, m2 := d.Copy(), m.copy()
				same(t, d2, m2, "a copy")
				do(t, d, m, c)
				same(t, d2, m2, "a copy, behind a call of the other one")
				same(t, d, m, "a disk that was copied")
				do(t, d2, m2, e)
				same(t, d, m, "a disk, behind a call of its copy")
				same(t, d2, m2, "a copy that was written")
				d3, m3 := d2.Copy(), m2.copy()
				do(t, d2, m2, c)
				same(t, d3, m3, "a copy of a copy")
				do(t, d3, m3, c)
				do(t, d3, m3, e)
				same(t, d3, m3, "a copy of a copy that was written")
				same(t, d2, m2, "a copy that was copied")
				same(t, d, m, "a disk whose copy was copied")
			}
		}
	}
}

func TestDisksAreOfTheirOwn(t *testing.T) {
	d, other := New(), New()
	d.Write("a")
	d.Tear("b", 12)
	same(t, other, &told{}, "a disk beside another one")
}

// P8.3: what is read is what was written last and whole.

func TestTornOnesTakeNothingAway(t *testing.T) {
	d, m := New(), &told{}
	for k := range 3000 {
		do(t, d, m, tear(noise(k%40, uint32(k)), k%57-1))
		if s, ok := d.Read(); s != "" || ok || d.Slot(1) != "" {
			t.Fatalf("torn %d times, none whole: %q, %v, %x", k+1, s, ok, d.Slot(1))
		}
	}
	for n, x := range []struct {
		s     string
		times int
	}{{"a", 3000}, {"", 3000}, {noise(8192, 3), 100}, {"d", 3000}} {
		do(t, d, m, write(x.s))
		kept := d.Slot(n % 2)
		for k := range x.times {
			do(t, d, m, tear(noise(k%40, uint32(k)), k%57-1))
			if r, ok := d.Read(); r != x.s || !ok || d.Slot(n%2) != kept {
				t.Fatalf("%d bytes, torn %d times: %q, %v", len(x.s), k+1, short(r), ok)
			}
		}
		same(t, d, m, "torn many times")
	}
}

// lookalikes: records whose own bytes are a record's, or have amid them the sum of what is ahead, so that a torn one may be opened; for a disk that gives the next one that number.
func lookalikes(number uint64) []string {
	out := []string{full(number, "in"), full(number+1, "in"), full(1, ""), full(99, "far"), head(99, 4) + "abcd", full(number, "in") + "x", "\x00\x00\x00\x00", sealed("")}
	out = append(out, full(number, full(number, full(99, "x"))), full(number+1, noise(8178, 1)))
	for _, s := range []string{"", "a", "abcd", full(99, "x")} {
		for _, rest := range []int{0, 1, 4, 14, 200} {
			n := len(s) + 4 + rest
			amid := sealed(head(number, n) + s)
			out = append(out, amid[10:]+noise(rest, 5))
		}
	}
	return out
}

func TestRecordsThatLookLikeRecords(t *testing.T) {
	for _, row := range states()[:14] {
		_, m := both(t, row...)
		for _, s := range lookalikes(uint64(m.ahead(len(m.row))) + 1) {
			if len(s) > 8000 {
				d, m := both(t, row...)
				do(t, d, m, tear(s, len(s)))
				same(t, d, m, "a long one torn")
				do(t, d, m, write(s))
				same(t, d, m, "a long one written")
				continue
			}
			for keep := range len(s) + 16 {
				d, m := both(t, row...)
				do(t, d, m, tear(s, keep))
				same(t, d, m, "torn")
			}
			d, m := both(t, row...)
			do(t, d, m, write(s))
			same(t, d, m, "written")
			do(t, d, m, write(s))
			same(t, d, m, "written twice")
		}
	}
}

// What the test above leans on: such a beginning has its sum right, and so would a torn one of four noughts.
func TestThatTornOnesMayHaveTheirSumRight(t *testing.T) {
	for _, x := range []struct {
		s    string
		keep int
	}{{"", 4}, {sealed(head(1, 24))[10:] + noise(20, 5), 14}, {sealed(head(1, 25) + "a")[10:] + noise(20, 5), 15}} {
		d := New()
		d.Tear(x.s, x.keep)
		b := d.Slot(0)
		if len(b) != x.keep || sealed(b[:len(b)-4]) != b {
			t.Errorf("%x: its sum isn't right", b)
		}
		if s, ok := d.Read(); s != "" || ok {
			t.Errorf("%x: read as %q", b, s)
		}
	}
}

// All rows of five calls of a menu, each on a copy.
func TestAllRowsOfAMenu(t *testing.T) {
	menu := []call{write(""), write("a"), write(full(2, "b")), tear("a", 0), tear("t", 4), tear("", 13), tear("t", 1000), write(strings.Repeat("x", 8193))}
	var walk func(d *Disk, m *told, deep int)
	walk = func(d *Disk, m *told, deep int) {
		same(t, d, m, "a row")
		if deep == 0 {
			return
		}
		for _, c := range menu {
			d2, m2 := d.Copy(), m.copy()
			do(t, d2, m2, c)
			walk(d2, m2, deep-1)
		}
		same(t, d, m, "what was copied")
	}
	walk(New(), &told{}, 5)
}

// Rows that look like chance: of short records and long ones, whole and torn, with reads and slots between them.
func TestRowsThatLookLikeChance(t *testing.T) {
	for seed := range uint32(12) {
		d, m := New(), &told{}
		dice := noise(4*400, seed+100)
		for k := 0; k < len(dice); k += 4 {
			n := int(dice[k])
			if n%16 == 0 {
				n = 8192 - int(dice[k+1])%3 + n/64
			}
			c := call{s: noise(n, uint32(k)+seed), torn: dice[k+2]%3 != 0, keep: int(dice[k+3]) * (n + 20) / 250}
			do(t, d, m, c)
			same(t, d, m, "a row that looks like chance")
			if dice[k+1]%8 == 0 {
				d = d.Copy()
			}
		}
	}
}
