package num

import (
	"bytes"
	"math"
	"strings"
	"testing"
	"unsafe"

	"consort/api"
)

// numbers that have every count of bytes from 0 to 8, and their edges.
func numbers() []uint64 {
	out := []uint64{0, 1, 127, 128, 0x0102030405060708, 0xf1e2d3c4b5a69788, math.MaxInt64, 1 << 63, math.MaxUint64 - 1, math.MaxUint64}
	for i := range 8 {
		edge := uint64(1) << (8 * i)
		out = append(out, edge-1, edge, edge+1)
	}
	return out
}

// lowest: the lowest n bytes of v, by division; n is 0 to 8.
func lowest(v uint64, n int) string {
	var out string
	for range n {
		out = string([]byte{byte(v % 256)}) + out
		v /= 256
	}
	return out
}

// P1.1: Put.

func TestPutWritesTheHighestByteFirst(t *testing.T) {
	for _, x := range []struct {
		v    uint64
		n    int
		want string
	}{
		{258, 2, "\x01\x02"},
		{258, 3, "\x00\x01\x02"},
		{0x0102030405060708, 8, "\x01\x02\x03\x04\x05\x06\x07\x08"},
		{0, 1, "\x00"},
		{0, 8, strings.Repeat("\x00", 8)},
		{math.MaxUint64, 8, strings.Repeat("\xff", 8)},
	} {
		if got := Put(nil, x.v, x.n); string(got) != x.want {
			t.Errorf("Put(nil, %d, %d) = %x, want %x", x.v, x.n, got, x.want)
		}
	}
}

func TestPutKeepsTheLowestBytesOfAGreaterNumber(t *testing.T) {
	for _, v := range numbers() {
		for n := range 9 {
			if got, want := string(Put([]byte("front"), v, n)), "front"+lowest(v, n); got != want {
				t.Errorf("Put(%d, %d) = %x, want %x", v, n, got, want)
			}
		}
	}
}

func TestPutCountsWidthsThatCantBeAsTheNearest(t *testing.T) {
	for _, n := range []int{0, -1, -8, -64, math.MinInt32, math.MinInt} {
		if got := Put([]byte("ab"), 77, n); string(got) != "ab" {
			t.Errorf("n = %d: %x", n, got)
		}
		if got := Put(nil, 77, n); len(got) != 0 {
			t.Errorf("n = %d, of nil: %x", n, got)
		}
	}
	for _, n := range []int{9, 10, 64, 256, math.MaxInt32, math.MaxInt} {
		if got := Put([]byte("ab"), 77, n); string(got) != "ab\x00\x00\x00\x00\x00\x00\x00\x4d" {
			t.Fatalf("n = %d: %x", n, got)
		}
	}
}

func TestPutIsNewMemory(t *testing.T) {
	for _, n := range []int{-1, 0, 1, 4, 8, 9} {
		room := []byte("abcdefghijklmnop")
		b := room[:3]
		out := Put(b, math.MaxUint64, n)
		if string(room) != "abcdefghijklmnop" {
			t.Fatalf("n = %d: what was handed in, or its spare room, was changed: %q", n, room)
		}
		for i := range out {
			out[i] = '!'
		}
		_ = append(out[:cap(out)], '!')
		if string(room) != "abcdefghijklmnop" {
			t.Fatalf("n = %d: the answer shares memory with what was handed in: %q", n, room)
		}
		again, other := Put(b, 1, n), Put(b, 1, n)
		again[0] = '!'
		if other[0] != 'a' {
			t.Fatalf("n = %d: two answers share memory", n)
		}
	}
}

// P1.1: Get.

func TestGet(t *testing.T) {
	const s = "\x01\x02\x03\x04\x05\x06\x07\x08\xff\xfe"
	for _, x := range []struct {
		at, n int
		want  uint64
	}{
		{0, 1, 1}, {1, 2, 515}, {9, 1, 0xfe}, {8, 2, 0xfffe},
		{0, 3, 0x010203}, {0, 4, 0x01020304}, {0, 5, 0x0102030405}, {0, 6, 0x010203040506}, {0, 7, 0x01020304050607},
		{0, 8, 0x0102030405060708}, {2, 8, 0x030405060708fffe},
	} {
		if v, ok := Get(s, x.at, x.n); v != x.want || !ok {
			t.Errorf("Get(%d, %d) = %d %v, want %d", x.at, x.n, v, ok, x.want)
		}
	}
	if v, ok := Get(strings.Repeat("\xff", 8), 0, 8); v != math.MaxUint64 || !ok {
		t.Error("the greatest number:", v, ok)
	}
	if v, ok := Get("\x00", 0, 1); v != 0 || !ok {
		t.Error("a zero that is there:", v, ok)
	}
}

func TestGetOfWidthsThatCantBe(t *testing.T) {
	long := strings.Repeat("\x01", 64)
	for _, n := range []int{0, -1, -8, math.MinInt, 9, 10, 64, math.MaxInt} {
		for _, at := range []int{0, 1, 60, 64, -1, math.MaxInt, math.MinInt} {
			if v, ok := Get(long, at, n); v != 0 || ok {
				t.Errorf("Get(%d, %d) = %d %v", at, n, v, ok)
			}
		}
	}
}

func TestGetOfBytesThatArentAllThere(t *testing.T) {
	for _, x := range []struct {
		s     string
		at, n int
	}{
		{"", 0, 1}, {"", 0, 8}, {"\x01\x02\x03", 0, 4}, {"\x01\x02\x03", 1, 3}, {"\x01\x02\x03", 2, 2}, {"\x01\x02\x03", 3, 1}, {"\x01\x02\x03", 4, 1},
		{"\x01\x02\x03", -1, 1}, {"\x01\x02\x03", -1, 2}, {"\x01\x02\x03", -3, 8}, {"\x01\x02\x03\x04\x05\x06\x07", 0, 8},
		{"\x01\x02\x03", math.MaxInt, 1}, {"\x01\x02\x03", math.MaxInt - 7, 8}, {"\x01\x02\x03", math.MaxInt - 3, 8}, {"\x01\x02\x03", math.MinInt, 1}, {"\x01\x02\x03", math.MinInt, 8},
	} {
		if v, ok := Get(x.s, x.at, x.n); v != 0 || ok {
			t.Errorf("Get(%x, %d, %d) = %d %v", x.s, x.at, x.n, v, ok)
		}
	}
}

// P1.1: Sum.

func TestSum(t *testing.T) {
	const top = math.MaxUint64
	for _, x := range []struct{ a, b, want uint64 }{
		{0, 0, 0}, {1, 2, 3}, {1 << 62, 1 << 62, 1 << 63}, {top - 1, 1, top}, {1<<63 - 1, 1 << 63, top}, {top, 0, top},
		{top, 1, top}, {top, top, top}, {1 << 63, 1 << 63, top}, {top - 1, 2, top}, {1, top, top}, {top - 5, top - 7, top},
	} {
		if got := Sum(x.a, x.b); got != x.want {
			t.Errorf("Sum(%d, %d) = %d, want %d", x.a, x.b, got, x.want)
		}
		if got := Sum(x.b, x.a); got != x.want {
			t.Errorf("Sum(%d, %d) = %d, want %d", x.b, x.a, got, x.want)
		}
	}
}

// P1.2: a reader.

// stands: whether r is past at bytes, with left ones left.
func stands(t *testing.T, r *Reader, at, left int) {
	t.Helper()
	if r.At() != at || r.Left() != left {
		t.Errorf("at %d, %d left; want %d, %d", r.At(), r.Left(), at, left)
	}
}

// givesUp: f panics, and with api.ErrShort.
func givesUp(t *testing.T, f func()) {
	t.Helper()
	defer func() {
		t.Helper()
		if e := recover(); e != api.ErrShort {
			t.Errorf("it gave up with %v, not with ErrShort", e)
		}
	}()
	f()
}

func TestReaderGoesThroughBytes(t *testing.T) {
	r := New("\x01\x02abc\x00\xff\xc3\x28\xfe")
	stands(t, r, 0, 10)
	if v := r.Num(2); v != 258 {
		t.Error(v)
	}
	stands(t, r, 2, 8)
	if s := r.Text(3); s != "abc" {
		t.Errorf("%q", s)
	}
	stands(t, r, 5, 5)
	if v := r.Num(1); v != 0 {
		t.Error(v)
	}
	if s := r.Text(3); s != "\xff\xc3\x28" {
		t.Errorf("bytes that are no runes: %x", s)
	}
	if v := r.Num(1); v != 0xfe {
		t.Error(v)
	}
	stands(t, r, 10, 0)
}

func TestReaderOfWidthsThatCantBe(t *testing.T) {
	r := New(strings.Repeat("\xff", 8) + "\x00\x00\x00\x00\x00\x00\x01\x02z")
	for _, n := range []int{0, -1, -9, math.MinInt} {
		if v, s := r.Num(n), r.Text(n); v != 0 || s != "" {
			t.Errorf("n = %d: %d %q", n, v, s)
		}
		stands(t, r, 0, 17)
	}
	if v := r.Num(9); v != math.MaxUint64 {
		t.Error(v)
	}
	stands(t, r, 8, 9)
	if v := r.Num(math.MaxInt); v != 258 {
		t.Error(v)
	}
	stands(t, r, 16, 1)
}

func TestReaderOfTextLongerThanANumber(t *testing.T) {
	long := strings.Repeat("0123456789", 100)
	r := New(long + "z")
	if r.Text(1000) != long {
		t.Error("cut short")
	}
	stands(t, r, 1000, 1)
}

func TestReaderGivesUpAndGoesPastNothing(t *testing.T) {
	r := New("\x01\x02\x03\x04\x05\x06\x07\x08")
	r.Num(1)
	for _, n := range []int{8, 9, math.MaxInt32, math.MaxInt} {
		givesUp(t, func() { r.Num(n) })
		givesUp(t, func() { r.Text(n) })
		stands(t, r, 1, 7)
	}
	if v := r.Num(7); v != 0x02030405060708 {
		t.Error(v)
	}
	for range 2 {
		givesUp(t, func() { r.Num(1) })
		givesUp(t, func() { r.Text(1) })
		stands(t, r, 8, 0)
	}
	if r.Num(0) != 0 || r.Num(-1) != 0 || r.Text(0) != "" || r.Text(-1) != "" {
		t.Error("none of no bytes are there always")
	}
}

func TestReaderOfNoBytes(t *testing.T) {
	r := New("")
	stands(t, r, 0, 0)
	if r.Num(0) != 0 || r.Text(0) != "" {
		t.Error("none")
	}
	for n := 1; n < 10; n++ {
		givesUp(t, func() { r.Num(n) })
		givesUp(t, func() { r.Text(n) })
	}
	stands(t, r, 0, 0)
}

func TestReadersStandApart(t *testing.T) {
	const s = "abcd"
	one, other := New(s), New(s)
	one.Text(3)
	stands(t, one, 3, 1)
	stands(t, other, 0, 4)
	if other.Text(2) != "ab" || one.Text(1) != "d" {
		t.Error("one reader moved the other")
	}
}

func TestTextIsNewMemory(t *testing.T) {
	s := strings.Repeat("abcd", 4)
	if got := New(s).Text(len(s)); got != s || unsafe.StringData(got) == unsafe.StringData(s) {
		t.Error("the answer shares memory with what was handed in")
	}
}

// P1.3: what was put is got.

func TestWhatWasPutIsGot(t *testing.T) {
	for _, v := range numbers() {
		for n := 1; n <= 8; n++ {
			want := v
			if n < 8 {
				want = v % (1 << (8 * n))
			}
			s := string(Put([]byte("abc"), v, n)) + "behind"
			if got, ok := Get(s, 3, n); got != want || !ok {
				t.Errorf("%d of %d bytes: Get %d %v", v, n, got, ok)
			}
			r := New(s)
			if r.Text(3) != "abc" || r.Num(n) != want || r.Text(6) != "behind" || r.Left() != 0 {
				t.Errorf("%d of %d bytes: a reader stands at %d", v, n, r.At())
			}
		}
	}
}

func TestAReaderReadsBackWhatWasPutOneBehindTheOther(t *testing.T) {
	var b []byte
	size := 0
	for n := -1; n <= 10; n++ {
		for _, v := range numbers() {
			b = Put(b, v, n)
			b = append(b, "text"...)
			size += min(max(n, 0), 8) + 4
		}
	}
	if len(b) != size {
		t.Fatalf("%d bytes, want %d", len(b), size)
	}
	r := New(string(b))
	at := 0
	for n := -1; n <= 10; n++ {
		for _, v := range numbers() {
			w := min(max(n, 0), 8)
			var want uint64
			for _, c := range []byte(lowest(v, w)) {
				want = want*256 + uint64(c)
			}
			stands(t, r, at, size-at)
			if got := r.Num(n); got != want {
				t.Errorf("%d of %d bytes: %d", v, n, got)
			}
			if got := r.Text(4); got != "text" {
				t.Errorf("behind %d of %d bytes: %q", v, n, got)
			}
			at += w + 4
		}
	}
	stands(t, r, size, 0)
}

func TestPutOfWhatWasPutLeavesItsFront(t *testing.T) {
	front := Put(Put(nil, 1, 2), 2, 3)
	if got := Put(front, 3, 1); !bytes.Equal(got, []byte{0, 1, 0, 0, 2, 3}) || !bytes.Equal(front, []byte{0, 1, 0, 0, 2}) {
		t.Errorf("%x %x", got, front)
	}
}
