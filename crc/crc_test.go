package crc

import (
	"encoding/binary"
	"hash/crc32"
	"math/bits"
	"slices"
	"strings"
	"testing"
)

// noise: n bytes that look like chance, the same ones each time.
func noise(n int, seed uint32) string {
	b := make([]byte, n)
	for i := range b {
		seed = seed*1664525 + 1013904223
		b[i] = byte(seed >> 24)
	}
	return string(b)
}

// texts: of all kinds and many lengths: none, noughts, ones, letters, and ones that look like chance.
func texts() []string {
	out := []string{"", "\x00", "\xff", "a", "abc", "123456789", "consort", "\x00\x00\x00\x00", "\xff\xff\xff\xff", "\xff\xff\xff\xff\x00", "äöü\n", "\x80\x01"}
	for _, n := range []int{2, 3, 4, 5, 7, 8, 31, 32, 33, 64, 255, 256, 257} {
		out = append(out, strings.Repeat("\x00", n), strings.Repeat("\xff", n), noise(n, uint32(n)), noise(n, uint32(1000+n)))
	}
	return out
}

// bitwise: the sum of s by long division of its bits, by the polynomial of the kind that isn't reflected.
func bitwise(s string) uint32 {
	c := uint32(0xFFFFFFFF)
	for i := range len(s) {
		for j := range 8 {
			top := c>>31 ^ uint32(s[i]>>j&1)
			c <<= 1
			if top == 1 {
				c ^= 0x04C11DB7
			}
		}
	}
	return ^bits.Reverse32(c)
}

// lowFirst: s, and the four bytes of its sum, as the library has it, behind it.
func lowFirst(s string) string {
	return string(binary.LittleEndian.AppendUint32([]byte(s), crc32.ChecksumIEEE([]byte(s))))
}

// opens: whether Open answers body and true of x.
func opens(t *testing.T, x, body string) {
	t.Helper()
	if s, ok := Open(x); s != body || !ok {
		t.Fatalf("Open(%x) = %x, %v, want %x, true", x, s, ok, body)
	}
}

// shut: whether Open answers an empty text and false of x.
func shut(t *testing.T, x, what string) {
	t.Helper()
	if s, ok := Open(x); s != "" || ok {
		t.Fatalf("%s: Open(%x) = %x, %v, want nothing, false", what, x, s, ok)
	}
}

// P4.1: Sum.

func TestSumOfKnownTexts(t *testing.T) {
	for _, x := range []struct {
		s    string
		want uint32
	}{
		{"", 0}, {"123456789", 0xCBF43926}, {"a", 0xE8B7BE43}, {"abc", 0x352441C2}, {"\x00", 0xD202EF8D}, {"\xff", 0xFF000000}, {"\xff\xff\xff\xff", 0xFFFFFFFF}, {"\x00\x00\x00\x00", 0x2144DF1C},
		{"The quick brown fox jumps over the lazy dog", 0x414FA339}, {strings.Repeat("\x00", 32), 0x190A55AD}, {strings.Repeat("\xff", 32), 0xFF6CAB0B},
	} {
		if got := Sum(x.s); got != x.want {
			t.Errorf("Sum(%q) = %08X, want %08X", x.s, got, x.want)
		}
	}
}

func TestSumIsTheOneOfTheLibraryAndOfLongDivision(t *testing.T) {
	l := texts()
	for a := range 256 {
		l = append(l, string([]byte{byte(a)}))
		for b := range 256 {
			l = append(l, string([]byte{byte(a), byte(b)}))
		}
	}
	l = append(l, noise(4095, 1), noise(4096, 2), noise(65537, 3), strings.Repeat("\x00", 1<<20))
	for _, s := range l {
		got := Sum(s)
		if want := crc32.ChecksumIEEE([]byte(s)); got != want {
			t.Fatalf("of %d bytes: %08X, the library's %08X", len(s), got, want)
		}
		if want := bitwise(s); got != want {
			t.Fatalf("of %d bytes: %08X, by long division %08X", len(s), got, want)
		}
	}
}

func TestSumOfNoPartsAndOfEmptyParts(t *testing.T) {
	if Sum() != 0 || Sum(nil...) != 0 || Sum([]string{}...) != 0 || Sum("") != 0 || Sum("", "", "") != 0 {
		t.Error("of no bytes:", Sum(), Sum(""), Sum("", "", ""))
	}
	for _, s := range texts() {
		want := Sum(s)
		if Sum("", s) != want || Sum(s, "") != want || Sum("", "", s, "", "") != want {
			t.Errorf("of %x: an empty part plays a part", s)
		}
	}
	if got := Sum(make([]string, 100000)...); got != 0 {
		t.Errorf("of many empty parts: %08X", got)
	}
}

func TestSumOfTheSameBytesInOtherParts(t *testing.T) {
	if Sum("ab", "", "c") != 0x352441C2 || Sum("1", "2345", "6789") != 0xCBF43926 {
		t.Error("of known texts in parts")
	}
	for _, s := range texts() {
		want := crc32.ChecksumIEEE([]byte(s))
		for i := range len(s) + 1 {
			if got := Sum(s[:i], s[i:]); got != want {
				t.Fatalf("of %x, cut at %d: %08X, want %08X", s, i, got, want)
			}
			j := i / 2
			if got := Sum(s[:j], s[j:i], s[i:]); got != want {
				t.Fatalf("of %x, cut at %d and %d: %08X, want %08X", s, j, i, got, want)
			}
		}
		var bytes []string
		for i := range len(s) {
			bytes = append(bytes, s[i:i+1])
		}
		if got := Sum(bytes...); got != want {
			t.Fatalf("of %x, byte by byte: %08X, want %08X", s, got, want)
		}
	}
}

func TestSumOfPartsInAnotherOrder(t *testing.T) {
	if Sum("ab", "c") == Sum("c", "ab") || Sum("\x00") == Sum("\x00", "\x00") || Sum("\x00") == Sum() {
		t.Error("the order of parts, or a nought, plays no part")
	}
}

func TestSumLeavesTheListOfParts(t *testing.T) {
	room := []string{"ab", "", "c", "spare", "room"}
	was := slices.Clone(room)
	if got := Sum(room[:3]...); got != 0x352441C2 {
		t.Errorf("a list's spare room plays a part: %08X", got)
	}
	if !slices.Equal(room, was) {
		t.Error("a list, or its spare room, was changed:", room)
	}
}

// P4.1: Seal.

func TestSeal(t *testing.T) {
	for _, x := range []struct{ s, want string }{
		{"", "\x00\x00\x00\x00"}, {"123456789", "123456789\x26\x39\xf4\xcb"}, {"abc", "abc\xc2\x41\x24\x35"}, {"\xff", "\xff\x00\x00\x00\xff"}, {"\x00", "\x00\x8d\xef\x02\xd2"}, {"\xff\xff\xff\xff", "\xff\xff\xff\xff\xff\xff\xff\xff"},
	} {
		if got := Seal(x.s); got != x.want {
			t.Errorf("Seal(%x) = %x, want %x", x.s, got, x.want)
		}
	}
	for _, s := range append(texts(), noise(65537, 5)) {
		if got, want := Seal(s), lowFirst(s); got != want {
			t.Errorf("Seal(%x) = %x, want %x", s, got, want)
		}
	}
}

// P4.1: Open.

func TestOpenOfWhatIsAheadOfItsSum(t *testing.T) {
	opens(t, "\x00\x00\x00\x00", "")
	opens(t, "123456789\x26\x39\xf4\xcb", "123456789")
	for _, s := range append(texts(), noise(65537, 6)) {
		opens(t, lowFirst(s), s)
	}
}

func TestOpenOfFewerThanFourBytes(t *testing.T) {
	for _, x := range []string{"", "\x00", "\x00\x00", "\x00\x00\x00", "\xff", "\xff\xff", "\xff\xff\xff", "a", "ab", "abc"} {
		shut(t, x, "too short")
	}
	for i := range 4 {
		shut(t, Seal("")[:i], "the front of no bytes sealed")
		shut(t, Seal("consort")[11-i:], "the end of what was sealed")
	}
}

func TestOpenOfFourBytesThatArentTheSumOfNone(t *testing.T) {
	for _, x := range []string{"\xff\xff\xff\xff", "\x00\x00\x00\x01", "\x01\x00\x00\x00", "\x80\x00\x00\x00", "\x00\x00\x00\x80", "abcd"} {
		shut(t, x, "no sum of none")
	}
}

func TestOpenOfSumsThatAreWrittenOtherwise(t *testing.T) {
	for _, s := range texts() {
		c := crc32.ChecksumIEEE([]byte(s))
		front, back := binary.BigEndian.AppendUint32(nil, c), binary.LittleEndian.AppendUint32(nil, c)
		for what, x := range map[string]string{
			"the highest byte first": s + string(front),
			"the sum ahead":          string(back) + s,
			"not turned at the end":  s + string(binary.LittleEndian.AppendUint32(nil, ^c)),
			"of bits the other way":  s + string(binary.LittleEndian.AppendUint32(nil, bits.Reverse32(c))),
		} {
			if x != lowFirst(s) { // of some, such as none, it is the same
				shut(t, x, what)
			}
		}
	}
}

// P4.2: what was sealed is opened.

func TestWhatWasSealedIsOpened(t *testing.T) {
	for _, s := range append(texts(), noise(32768, 7), strings.Repeat("\xff", 65536)) {
		opens(t, Seal(s), s)
		opens(t, Seal(Seal(s)), Seal(s))
		once, _ := Open(Seal(Seal(s)))
		opens(t, once, s)
	}
	for n := range 300 {
		s := noise(n, uint32(n)*7)
		opens(t, Seal(s), s)
	}
}

// P4.2: with one byte turned, it isn't.

func TestWithOneByteTurnedItIsntOpened(t *testing.T) {
	for _, s := range texts() {
		b := []byte(Seal(s))
		step := 1
		if len(s) > 64 {
			step = 127 // just some of the ways, lest it take long
		}
		for i := range b {
			was := b[i]
			for m := 1; m < 256; m += step {
				b[i] = was ^ byte(m)
				shut(t, string(b), "one byte turned")
			}
			b[i] = was
		}
		opens(t, string(b), s)
	}
}

func TestWithOneByteOfManyTurnedItIsntOpened(t *testing.T) {
	s := noise(32768, 8)
	b := []byte(Seal(s))
	for _, i := range []int{0, 1, 255, 256, 16383, 16384, 32766, 32767, 32768, 32769, 32770, 32771} {
		for _, m := range []byte{1, 0x10, 0x80, 0xff} {
			b[i] ^= m
			shut(t, string(b), "one byte turned")
			b[i] ^= m
		}
	}
	opens(t, string(b), s)
}

// P4.2: with up to 32 neighbouring bits turned, it isn't.

// turnedBits: s, of which those bits are turned that mask has, from the bit at on; in each byte the lowest one is first.
func turnedBits(s string, at int, mask uint32) string {
	b := []byte(s)
	for j := range 32 {
		if mask>>j&1 == 1 {
			b[(at+j)/8] ^= 1 << ((at + j) % 8)
		}
	}
	return string(b)
}

// masks: of 32 bits: each one alone, runs of each length, the two ends of each length, and ones that look like chance.
func masks() []uint32 {
	var out []uint32
	for n := range 32 {
		out = append(out, 1<<n, 2<<n-1, 1<<n|1, ^uint32(0)<<n)
	}
	out = append(out, 0x55555555, 0xAAAAAAAA, 0x80000001, 0xEDB88320, 0xDB710641, 0x04C11DB7, 0x82608EDB)
	c := uint32(9)
	for range 40 {
		c = c*1664525 + 1013904223
		out = append(out, c|1)
	}
	return out
}

func TestWithNeighbouringBitsTurnedItIsntOpened(t *testing.T) {
	for _, s := range []string{"", "\x00", "\xff", "a", "consort", strings.Repeat("\x00", 8), strings.Repeat("\xff", 8), noise(21, 10)} {
		x := Seal(s)
		for at := range 8*len(x) - 31 {
			for _, m := range masks() {
				shut(t, turnedBits(x, at, m), "neighbours turned")
			}
		}
		opens(t, x, s)
	}
}

func TestWithAllBitsOfAWindowTurnedInAllWaysItIsntOpened(t *testing.T) {
	// All ways of 16 neighbours, at each place of a text, and across where its sum begins.
	x := Seal("ab")
	for at := range 8*len(x) - 31 {
		for m := uint32(1); m < 1<<16; m++ {
			if m&1 == 1 || at == 0 { // else it is one of the place behind
				shut(t, turnedBits(x, at, m), "neighbours turned")
			}
			if at == 8*len(x)-32 {
				shut(t, turnedBits(x, at, m<<16), "neighbours turned")
			}
		}
	}
}

// off: how far what x ends with is off the sum of what is ahead of it: 0, where Open opens it.
func off(x string) uint32 {
	n := len(x) - 4
	return Sum(x[:n]) ^ binary.LittleEndian.Uint32([]byte(x[n:]))
}

// rank: of how many of l none comes of others by exclusive or.
func rank(l []uint32) int {
	var lead [32]uint32
	n := 0
	for _, v := range l {
		for v != 0 {
			top := bits.Len32(v) - 1
			if lead[top] == 0 {
				lead[top] = v
				n++
				break
			}
			v ^= lead[top]
		}
	}
	return n
}

// What several turned bits do together is, by exclusive or, what each of them does: so where 32 neighbours do what none of the others together do, none of their 2^32-1 ways to be turned is opened.
func TestNoWayToTurn32NeighboursIsOpened(t *testing.T) {
	for _, s := range []string{"", "a", "consort", noise(300, 11), strings.Repeat("\x00", 300)} {
		x := Seal(s)
		var each []uint32
		for at := range 8 * len(x) {
			b := []byte(x)
			b[at/8] ^= 1 << (at % 8)
			each = append(each, off(string(b)))
		}
		for at := range len(each) - 31 {
			if n := rank(each[at : at+32]); n != 32 {
				t.Fatalf("of %d bytes sealed, the bits from %d on: rank %d", len(s), at, n)
			}
			for _, m := range []uint32{3, 0xFFFFFFFF, 0x90000009, 0xCAFEBABE} {
				var want uint32
				for j := range 32 {
					want ^= each[at+j] * (m >> j & 1)
				}
				if got := off(turnedBits(x, at, m)); got != want {
					t.Fatalf("of %d bytes sealed, the bits from %d on, %08X of them: off by %08X, want %08X", len(s), at, m, got, want)
				}
			}
		}
	}
}

// P4.2: a byte too many or too few, at either end.

func TestWithAByteTooManyOrTooFewItIsntOpened(t *testing.T) {
	for _, s := range append(texts(), noise(4096, 12)) {
		x := Seal(s)
		shut(t, x[1:], "without its first byte")
		shut(t, x[:len(x)-1], "without its last byte")
		for b := range 256 {
			c := string([]byte{byte(b)})
			shut(t, c+x, "a byte ahead of it")
			shut(t, x+c, "a byte behind it")
		}
	}
}
