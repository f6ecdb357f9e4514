package frame

import (
	"encoding/binary"
	"hash/crc32"
	"math"
	"strings"
	"testing"
	"unsafe"

	"consort/api"
)

// noise: n bytes that look like chance, the same ones each time.
func noise(n int, seed uint32) string {
	b := make([]byte, n)
	for i := range b {
		seed = seed*1664525 + 1013904223
		b[i] = byte(seed >> 24)
	}
	return string(b)
}

// sealed: s, and behind it its sum as the library has it, the lowest byte first.
func sealed(s string) string {
	return string(binary.LittleEndian.AppendUint32([]byte(s), crc32.ChecksumIEEE([]byte(s))))
}

// opened: s, of the mark, the version, the kind, who sends, to whom, the length that is told, and the body, but for its sum.
func opened(mark, version, kind, from, to, told int, body string) string {
	return string([]byte{byte(mark), byte(version), byte(kind), byte(from), byte(to), byte(told >> 8), byte(told)}) + body
}

// framed: what the bytes of f have to be.
func framed(f Frame) string {
	return sealed(opened(0xC5, 1, f.Kind, f.From, f.To, len(f.Body), f.Body))
}

// bodies: of all kinds and lengths up to the longest one.
func bodies() []string {
	out := []string{"", "\x00", "\xff", "hi", "\xc5\x01\x01\x02\x03\x00\x00", "äöü\n", "\x80\x01"}
	for _, n := range []int{3, 4, 7, 11, 31, 255, 256, 257, 32767, 32768} {
		out = append(out, strings.Repeat("\x00", n), strings.Repeat("\xff", n), noise(n, uint32(n)))
	}
	return append(out, framed(Frame{Kind: 1, Body: "in it"}))
}

// frames: that can be printed: all kinds, processes at the edges, all bodies.
func frames() []Frame {
	var out []Frame
	for kind := 1; kind <= 11; kind++ {
		for _, from := range []int{0, 1, 31, 63} {
			for _, to := range []int{0, 2, 32, 63} {
				out = append(out, Frame{kind, from, to, ""}, Frame{kind, from, to, noise(kind, uint32(from))})
			}
		}
	}
	for i, b := range bodies() {
		out = append(out, Frame{1 + i%11, i % 64, 63 - i%64, b})
	}
	return out
}

// noKinds: numbers that are no kind; of some the lowest byte is one.
func noKinds() []int {
	return []int{0, 12, -1, 13, 127, 128, 255, 256, 257, 267, -255, -245, 1 << 32, 1<<32 + 1, math.MinInt + 1, math.MinInt, math.MaxInt}
}

// noProcesses: numbers that are none; of some the lowest byte is one.
func noProcesses() []int {
	return []int{-1, 64, -64, 65, 127, 128, 255, 256, 257, 319, -256, -255, 1 << 32, 1<<32 + 5, math.MinInt + 1, math.MinInt, math.MaxInt}
}

// tooLong: bodies that are longer than may be; of some the lowest bytes of their length are those of one that may be.
func tooLong() []string {
	var out []string
	for _, n := range []int{32769, 32770, 65535, 65536, 65537, 65538, 98304, 98305, 1 << 20} {
		out = append(out, strings.Repeat("b", n))
	}
	return out
}

// prints: whether Print answers of f what it has to.
func prints(t *testing.T, f Frame, want api.Errno) {
	t.Helper()
	bytes := ""
	if want == api.OK {
		bytes = framed(f)
	}
	if s, e := Print(f); s != bytes || e != want {
		t.Errorf("Print(%d %d %d %.20q, %d bytes) = %.30x, %d, want %.30x, %d", f.Kind, f.From, f.To, f.Body, len(f.Body), s, e, bytes, want)
	}
}

// parses: whether Parse answers f of s.
func parses(t *testing.T, s string, want Frame) {
	t.Helper()
	if f, e := Parse(s); f != want || e != api.OK {
		t.Errorf("Parse(%.30x, %d bytes) = %d %d %d %.20q, %d", s, len(s), f.Kind, f.From, f.To, f.Body, e)
	}
}

// refuses: whether Parse answers that error, and no frame, of s.
func refuses(t *testing.T, s string, want api.Errno, what string) {
	t.Helper()
	if f, e := Parse(s); f != (Frame{}) || e != want {
		t.Errorf("%s: Parse(%.30x, %d bytes) = %d %d %d %.20q, %d, want nothing, %d", what, s, len(s), f.Kind, f.From, f.To, f.Body, e, want)
	}
}

// P5.1: Print, its bytes.

func TestPrintOfTheExample(t *testing.T) {
	s, e := Print(Frame{1, 2, 3, "hi"})
	if s != "\xc5\x01\x01\x02\x03\x00\x02\x68\x69\x65\x6e\x22\xee" || e != api.OK {
		t.Errorf("%x, %d", s, e)
	}
}

func TestPrintOfKnownBytes(t *testing.T) {
	for _, x := range []struct {
		f    Frame
		want string
	}{
		{Frame{1, 0, 0, ""}, "\xc5\x01\x01\x00\x00\x00\x00"},
		{Frame{11, 63, 62, "\x00"}, "\xc5\x01\x0b\x3f\x3e\x00\x01\x00"},
		{Frame{7, 0, 63, strings.Repeat("x", 255)}, "\xc5\x01\x07\x00\x3f\x00\xff" + strings.Repeat("x", 255)},
		{Frame{7, 63, 0, strings.Repeat("x", 256)}, "\xc5\x01\x07\x3f\x00\x01\x00" + strings.Repeat("x", 256)},
		{Frame{5, 9, 8, strings.Repeat("x", 32767)}, "\xc5\x01\x05\x09\x08\x7f\xff" + strings.Repeat("x", 32767)},
		{Frame{5, 9, 8, strings.Repeat("x", 32768)}, "\xc5\x01\x05\x09\x08\x80\x00" + strings.Repeat("x", 32768)},
	} {
		if s, e := Print(x.f); s != sealed(x.want) || e != api.OK {
			t.Errorf("%d %d %d: %.30x, %d", x.f.Kind, x.f.From, x.f.To, s, e)
		}
	}
}

func TestPrintOfAllThatMayBe(t *testing.T) {
	for kind := 1; kind <= 11; kind++ {
		for from := range 64 {
			for to := range 64 {
				prints(t, Frame{kind, from, to, "hi"}, api.OK)
			}
		}
	}
	for _, f := range frames() {
		prints(t, f, api.OK)
		if s, _ := Print(f); len(s) != 11+len(f.Body) {
			t.Errorf("%d bytes of a body of %d", len(s), len(f.Body))
		}
	}
}

// P5.1: Print, its errors.

func TestPrintOfWrongKinds(t *testing.T) {
	for _, kind := range noKinds() {
		prints(t, Frame{kind, 2, 3, "hi"}, api.ErrKind)
	}
	prints(t, Frame{}, api.ErrKind)
}

func TestPrintOfWrongProcesses(t *testing.T) {
	for _, p := range noProcesses() {
		prints(t, Frame{1, p, 3, "hi"}, api.ErrRange)
		prints(t, Frame{11, 2, p, ""}, api.ErrRange)
		prints(t, Frame{5, p, p, "hi"}, api.ErrRange)
	}
}

func TestPrintOfBodiesThatAreTooLong(t *testing.T) {
	for _, b := range tooLong() {
		prints(t, Frame{1, 2, 3, b}, api.ErrLong)
	}
}

func TestPrintAnswersTheFirstOfSeveralErrors(t *testing.T) {
	long := strings.Repeat("b", 32769)
	for _, kind := range noKinds() {
		for _, p := range noProcesses() {
			prints(t, Frame{kind, p, 3, "hi"}, api.ErrKind)
			prints(t, Frame{kind, 2, p, long}, api.ErrKind)
		}
		prints(t, Frame{kind, 2, 3, long}, api.ErrKind)
	}
	for _, p := range noProcesses() {
		prints(t, Frame{1, p, 3, long}, api.ErrRange)
		prints(t, Frame{1, 2, p, long}, api.ErrRange)
	}
}

// P5.2: Parse, the frame.

func TestParseOfTheExample(t *testing.T) {
	parses(t, "\xc5\x01\x01\x02\x03\x00\x02\x68\x69\x65\x6e\x22\xee", Frame{1, 2, 3, "hi"})
}

func TestParseOfAllThatMayBe(t *testing.T) {
	for kind := 1; kind <= 11; kind++ {
		for from := range 64 {
			for to := range 64 {
				f := Frame{kind, from, to, "hi"}
				parses(t, framed(f), f)
			}
		}
	}
	for _, f := range frames() {
		parses(t, framed(f), f)
	}
}

func TestParseIsNewMemory(t *testing.T) {
	for _, b := range []string{"a", "consort", strings.Repeat("b", 32768)} {
		s := framed(Frame{1, 2, 3, b})
		f, _ := Parse(s)
		g, _ := Parse(s)
		if f.Body != b || unsafe.StringData(f.Body) == unsafe.StringData(s[7:]) {
			t.Error("the body shares memory with what was handed in")
		}
		if unsafe.StringData(f.Body) == unsafe.StringData(g.Body) {
			t.Error("the bodies of two answers share memory")
		}
	}
}

// P5.2: Parse, its errors.

func TestParseOfFewerThanElevenBytes(t *testing.T) {
	for n := range 11 {
		refuses(t, strings.Repeat("\x00", n), api.ErrShort, "noughts")
		refuses(t, "0123456789"[:n], api.ErrShort, "digits")
		refuses(t, framed(Frame{1, 2, 3, "hi"})[:n], api.ErrShort, "the front of a frame")
		if n >= 4 {
			refuses(t, sealed(opened(0xC5, 1, 1, 2, 3, 0, "")[:n-4]), api.ErrShort, "the front of a frame, sealed")
			refuses(t, sealed("\xc4\x02\x00\x40\x40\x01"[:n-4]), api.ErrShort, "what is wrong all over, sealed")
		}
	}
}

func TestParseOfElevenBytes(t *testing.T) {
	refuses(t, "01234567890", api.ErrSum, "digits")
	refuses(t, strings.Repeat("\x00", 11), api.ErrSum, "noughts")
	refuses(t, sealed("0123456"), api.ErrForm, "digits, sealed")
	refuses(t, sealed(opened(0xC5, 1, 1, 2, 3, 1, "")), api.ErrLong, "without its body")
	parses(t, sealed(opened(0xC5, 1, 1, 2, 3, 0, "")), Frame{1, 2, 3, ""})
}

func TestParseOfAnotherSum(t *testing.T) {
	for _, f := range frames() {
		s := opened(0xC5, 1, f.Kind, f.From, f.To, len(f.Body), f.Body)
		sum := crc32.ChecksumIEEE([]byte(s))
		refuses(t, s+string(binary.BigEndian.AppendUint32(nil, sum)), api.ErrSum, "the highest byte first")
		refuses(t, s+string(binary.LittleEndian.AppendUint32(nil, ^sum)), api.ErrSum, "not turned at the end")
		refuses(t, s+string(binary.LittleEndian.AppendUint32(nil, sum+1)), api.ErrSum, "one more")
		refuses(t, s+"\x00\x00\x00\x00", api.ErrSum, "noughts")
		refuses(t, s+string(binary.LittleEndian.AppendUint32(nil, crc32.ChecksumIEEE([]byte(f.Body)))), api.ErrSum, "the body's sum")
	}
}

func TestParseOfAnotherMark(t *testing.T) {
	for mark := range 256 {
		if mark != 0xC5 {
			refuses(t, sealed(opened(mark, 1, 1, 2, 3, 2, "hi")), api.ErrForm, "another mark")
		}
	}
}

func TestParseOfAnotherVersion(t *testing.T) {
	for version := range 256 {
		if version != 1 {
			refuses(t, sealed(opened(0xC5, version, 1, 2, 3, 2, "hi")), api.ErrVersion, "another version")
		}
	}
}

func TestParseOfAnotherKind(t *testing.T) {
	for kind := range 256 {
		if kind < 1 || kind > 11 {
			refuses(t, sealed(opened(0xC5, 1, kind, 2, 3, 2, "hi")), api.ErrKind, "no kind")
		}
	}
}

func TestParseOfNoProcesses(t *testing.T) {
	for p := 64; p < 256; p++ {
		refuses(t, sealed(opened(0xC5, 1, 1, p, 3, 2, "hi")), api.ErrRange, "no process sends")
		refuses(t, sealed(opened(0xC5, 1, 11, 2, p, 0, "")), api.ErrRange, "to no process")
		refuses(t, sealed(opened(0xC5, 1, 5, p, p, 2, "hi")), api.ErrRange, "neither is one")
	}
}

func TestParseOfBodiesThatAreTooLong(t *testing.T) {
	for _, b := range tooLong() {
		refuses(t, sealed(opened(0xC5, 1, 1, 2, 3, len(b), b)), api.ErrLong, "too long")
		for _, told := range []int{0, 1, 2, 32768, 65535} {
			refuses(t, sealed(opened(0xC5, 1, 1, 2, 3, told, b)), api.ErrLong, "too long, and not as it says")
		}
	}
}

func TestParseOfBodiesThatArentAsLongAsTheySay(t *testing.T) {
	for _, n := range []int{0, 1, 2, 5, 255, 256, 257, 32767, 32768} {
		b := noise(n, 3)
		for _, told := range []int{0, 1, 2, 3, 4, 5, 6, 254, 255, 256, 257, 258, 511, 512, 1280, 32766, 32767, 32768, 32769, 65535} {
			if told != n {
				refuses(t, sealed(opened(0xC5, 1, 1, 2, 3, told, b)), api.ErrLong, "not as long as it says")
			}
		}
	}
}

func TestParseAnswersTheFirstOfSeveralErrors(t *testing.T) {
	// At each place what is wrong from there on, while all ahead of it is right.
	bad := [][]int{{0, 0xC4, 0x5C, 255}, {0, 2, 255}, {0, 12, 255}, {64, 255}, {64, 255}, {0, 3, 65535}}
	good := []int{0xC5, 1, 1, 2, 3, 2}
	errors := []api.Errno{api.ErrForm, api.ErrVersion, api.ErrKind, api.ErrRange, api.ErrRange, api.ErrLong}
	for i, l := range bad {
		for _, v := range l {
			for mask := range 1 << (len(bad) - i - 1) {
				x := append([]int{}, good...)
				x[i] = v
				for j := i + 1; j < len(bad); j++ {
					if mask>>(j-i-1)&1 == 1 {
						x[j] = bad[j][0]
					}
				}
				s := opened(x[0], x[1], x[2], x[3], x[4], x[5], "hi")
				refuses(t, sealed(s), errors[i], "the first of several")
				refuses(t, s+"\x00\x00\x00\x00", api.ErrSum, "another sum, too")
				refuses(t, s[:7], api.ErrShort, "too short, too")
			}
		}
	}
}

func TestParseAnswersWhatIsWrongAheadOfALongBody(t *testing.T) {
	long := strings.Repeat("b", 32769)
	for _, x := range []struct {
		s    string
		want api.Errno
	}{
		{opened(0xC4, 2, 0, 64, 64, 32769, long), api.ErrForm}, {opened(0xC5, 2, 0, 64, 64, 32769, long), api.ErrVersion}, {opened(0xC5, 1, 0, 64, 64, 32769, long), api.ErrKind},
		{opened(0xC5, 1, 12, 2, 3, 32769, long), api.ErrKind}, {opened(0xC5, 1, 1, 64, 3, 32769, long), api.ErrRange}, {opened(0xC5, 1, 1, 2, 64, 32769, long), api.ErrRange}, {opened(0xC5, 1, 1, 2, 3, 32769, long), api.ErrLong},
	} {
		refuses(t, sealed(x.s), x.want, "a long body")
		refuses(t, x.s+"abcd", api.ErrSum, "a long body, and another sum")
	}
}

// P5.3: what was printed is parsed.

func TestWhatWasPrintedIsParsed(t *testing.T) {
	for _, f := range frames() {
		s, e := Print(f)
		if e != api.OK {
			t.Fatalf("%d %d %d isn't printed: %d", f.Kind, f.From, f.To, e)
		}
		parses(t, s, f)
		if len(s) <= 32768 { // a frame may be another one's body
			g := Frame{11, 0, 63, s}
			around, _ := Print(g)
			parses(t, around, g)
		}
	}
}

// P5.3: nothing else is parsed.

// nothingElse: what is parsed of s is printed to s again.
func nothingElse(t *testing.T, s string) {
	t.Helper()
	f, e := Parse(s)
	if e != api.OK {
		if f != (Frame{}) {
			t.Errorf("%.30x: a frame beside the error %d", s, e)
		}
		return
	}
	if again, e := Print(f); again != s || e != api.OK {
		t.Errorf("%.30x is parsed, but wasn't printed: %.30x, %d", s, again, e)
	}
}

func TestNothingElseIsParsed(t *testing.T) {
	// All heads with two bytes turned to whatever, of an empty body and of a short one.
	for _, body := range []string{"", "hi"} {
		head := opened(0xC5, 1, 1, 2, 3, len(body), "")
		for i := range len(head) {
			for j := range i {
				for v := range 1 << 16 {
					b := []byte(head + body)
					b[i], b[j] = byte(v), byte(v>>8)
					nothingElse(t, sealed(string(b)))
				}
			}
		}
	}
}

func TestNothingElseOfNoise(t *testing.T) {
	for n := range 400 {
		for seed := range uint32(20) {
			s := noise(n, seed)
			nothingElse(t, s)
			nothingElse(t, sealed(s))
			nothingElse(t, sealed("\xc5\x01"+s))
			nothingElse(t, sealed("\xc5\x01\x01\x02\x03"+s))
			nothingElse(t, sealed(opened(0xC5, 1, 1, 2, 3, n, s)))
		}
	}
}

func TestWithBytesTooManyOrTooFewItIsntParsed(t *testing.T) {
	for _, f := range frames() {
		s := framed(f)
		refuses(t, s+"\x00", api.ErrSum, "a byte behind it")
		refuses(t, "\xc5"+s, api.ErrSum, "a byte ahead of it")
		refuses(t, s+s, api.ErrSum, "twice")
		want := api.ErrSum
		if f.Body == "" {
			want = api.ErrShort
		}
		refuses(t, s[1:], want, "without its first byte")
		refuses(t, s[:len(s)-1], want, "without its last byte")
		inner := s[:len(s)-4]
		refuses(t, sealed(inner+"\x00"), api.ErrLong, "a byte too many, sealed")
		refuses(t, sealed(s), api.ErrLong, "sealed twice")
	}
}

// P5.3: with one byte turned it isn't parsed.

// turned: whether none of the frames is parsed that are s with its byte i turned by each step-th number.
func turned(t *testing.T, s string, i, step int) {
	t.Helper()
	b := []byte(s)
	for m := 1; m < 256; m += step {
		b[i] = s[i] ^ byte(m)
		refuses(t, string(b), api.ErrSum, "one byte turned")
	}
}

func TestWithOneByteTurnedItIsntParsed(t *testing.T) {
	for _, f := range frames() {
		s := framed(f)
		if len(s) > 64 {
			continue
		}
		for i := range len(s) {
			turned(t, s, i, 1)
		}
	}
	for _, n := range []int{255, 256, 257, 600} {
		s := framed(Frame{9, 63, 0, noise(n, 17)})
		for i := range len(s) {
			turned(t, s, i, 127)
		}
	}
}

func TestWithOneByteOfManyTurnedItIsntParsed(t *testing.T) {
	s := framed(Frame{5, 1, 2, noise(32768, 23)})
	n := len(s)
	for _, i := range []int{0, 1, 2, 3, 4, 5, 6, 7, 8, 16384, n - 6, n - 5, n - 4, n - 3, n - 2, n - 1} {
		turned(t, s, i, 63)
	}
}

// What a call answers hangs on its arguments alone.

func TestTheSameIsAnsweredAgain(t *testing.T) {
	for _, f := range append(frames(), Frame{}, Frame{1, 64, 0, "x"}) {
		s, e := Print(f)
		Print(Frame{11, 9, 8, "between"})
		if again, b := Print(f); again != s || b != e {
			t.Errorf("%d %d %d: printed otherwise", f.Kind, f.From, f.To)
		}
		g, c := Parse(s)
		Parse(framed(Frame{11, 9, 8, "between"}))
		if again, d := Parse(s); again != g || d != c {
			t.Errorf("%d %d %d: parsed otherwise", f.Kind, f.From, f.To)
		}
	}
}
