package stream

import (
	"fmt"
	"math"
	"reflect"
	"slices"
	"testing"

	"consort/api"
)

// told: a stream as the chapter's words have it. It keeps all messages that were taken, and works out each answer anew from them.
type told struct {
	size  int
	taken []api.Message
}

// first: the place of the one of that number among all that were taken; -1, if there is none.
func (m *told) first(seq uint64) int {
	return slices.IndexFunc(m.taken, func(x api.Message) bool { return uint64(x.Seq) == seq })
}

// room: the size, as it counts.
func (m *told) room() uint64 {
	switch {
	case m.size < 1:
		return 1
	case m.size > 64:
		return 64
	}
	return uint64(m.size)
}

// count: up to which number, from 1 on, all were taken.
func (m *told) count() uint64 {
	var n uint64
	for m.first(n+1) >= 0 {
		n++
	}
	return n
}

// held: how many were taken and not answered.
func (m *told) held() int { return len(m.taken) - int(m.count()) }

// lacks: the first number that lacks, up to upto.
func (m *told) lacks(upto uint32) (uint32, bool) {
	for n := uint64(1); n <= uint64(upto); n++ {
		if m.first(n) < 0 {
			return uint32(n), true
		}
	}
	return 0, false
}

// take: x is taken, or not; what is answered.
func (m *told) take(x api.Message) ([]api.Message, api.Errno) {
	before := m.count()
	switch {
	case x.Seq == 0:
		return nil, 1
	case m.first(uint64(x.Seq)) >= 0:
		return nil, 12
	case uint64(x.Seq) > before+m.room():
		return nil, 6
	}
	m.taken = append(m.taken, x)
	var out []api.Message
	for n := before + 1; n <= m.count(); n++ {
		out = append(out, m.taken[m.first(n)])
	}
	return out, 0
}

func (m *told) copy() *told { return &told{size: m.size, taken: slices.Clone(m.taken)} }

// numbers: those of which Lacks is asked: at the edges, at the count and about the end of the room.
func (m *told) numbers() []uint32 {
	n := uint32(m.count())
	l := []uint32{0, 1, 2, n, n + 1, n + 2, n + uint32(m.room()), n + uint32(m.room()) + 1, math.MaxInt32, 1 << 31, math.MaxUint32 - 1, math.MaxUint32}
	if n > 0 {
		l = append(l, n-1)
	}
	return l
}

// message: one of that number; its other fields differ from those of other marks.
func message(seq uint32, mark int) api.Message {
	deps := make([]uint32, mark%4, mark%4+2)
	for i := range deps {
		deps[i] = seq + uint32(mark*10+i)
	}
	return api.Message{From: mark % 64, Seq: seq, Stamp: uint64(seq)<<32 + uint64(mark), Service: mark % 3, Deps: deps, Payload: fmt.Sprint("p", seq, " ", mark)}
}

// messages: one of each number; they differ in all fields.
func messages(seqs ...uint32) []api.Message {
	var out []api.Message
	for i, n := range seqs {
		out = append(out, message(n, i+1))
	}
	return out
}

// equal: are two the same in all fields?
func equal(a, b api.Message) bool {
	return a.From == b.From && a.Seq == b.Seq && a.Stamp == b.Stamp && a.Service == b.Service && a.Payload == b.Payload && slices.Equal(a.Deps, b.Deps)
}

// seqs: the numbers of these.
func seqs(l []api.Message) []uint32 {
	var out []uint32
	for _, m := range l {
		out = append(out, m.Seq)
	}
	return out
}

// state: all that a stream has, to be held against what it has later.
func state(s *Stream) *Stream {
	out := &Stream{size: s.size, count: s.count, held: map[uint32]api.Message{}}
	for n, m := range s.held {
		m.Deps = slices.Clone(m.Deps)
		out.held[n] = m
	}
	return out
}

// same: whether s answers as m does, and twice, since an answer leaves the stream as it is.
func same(t *testing.T, s *Stream, m *told, what string) {
	t.Helper()
	before, count, held := state(s), uint32(m.count()), m.held()
	for range 2 {
		if s.Count() != count || s.Held() != held {
			t.Fatalf("%s: size %d, taken %v: Count() = %d, Held() = %d, want %d, %d", what, m.size, seqs(m.taken), s.Count(), s.Held(), count, held)
		}
		for _, upto := range m.numbers() {
			n, ok := s.Lacks(upto)
			if want, wantOK := m.lacks(upto); n != want || ok != wantOK {
				t.Fatalf("%s: size %d, taken %v: Lacks(%d) = %d, %v, want %d, %v", what, m.size, seqs(m.taken), upto, n, ok, want, wantOK)
			}
		}
	}
	if !reflect.DeepEqual(s, before) {
		t.Fatalf("%s: size %d, taken %v: an answer changed the stream", what, m.size, seqs(m.taken))
	}
}

// take: both take x, and answer the same; with an error s is as it was.
func take(t *testing.T, s *Stream, m *told, x api.Message, what string) []api.Message {
	t.Helper()
	ahead, before := seqs(m.taken), state(s)
	want, wantE := m.take(x)
	got, e := s.Take(x)
	if e != wantE || !slices.EqualFunc(got, want, equal) {
		t.Fatalf("%s: size %d, taken %v: Take of %d = %+v, %d, want %+v, %d", what, m.size, ahead, x.Seq, got, e, want, wantE)
	}
	if e != api.OK && !reflect.DeepEqual(s, before) {
		t.Fatalf("%s: size %d, taken %v: Take of %d, answered %d, changed the stream", what, m.size, ahead, x.Seq, e)
	}
	return got
}

// both: a stream and what it was told: these, each answer held against the other.
func both(t *testing.T, what string, size int, row ...api.Message) (*Stream, *told) {
	t.Helper()
	s, m := New(size), &told{size: size}
	same(t, s, m, what+", at the beginning")
	for i, x := range row {
		take(t, s, m, x, what)
		same(t, s, m, fmt.Sprint(what, ", behind the message ", i))
	}
	return s, m
}

// turned: numbers that look like chance, the same ones each time.
type turned uint64

func (d *turned) below(n int) int {
	*d = *d*6364136223846793005 + 1442695040888963407
	return int(uint64(*d) >> 33 % uint64(n))
}

// sizes: those that are to be, and those beyond them, each with what it counts as.
var sizes = []struct {
	size int
	room uint32
}{
	{math.MinInt, 1}, {math.MinInt + 1, 1}, {-1 << 32, 1}, {-64, 1}, {-5, 1}, {-1, 1}, {0, 1}, {1, 1}, {2, 2}, {3, 3}, {31, 31}, {32, 32}, {62, 62}, {63, 63}, {64, 64}, {65, 64}, {66, 64}, {128, 64}, {1 << 31, 64}, {1 << 32, 64}, {1<<32 + 1, 64}, {math.MaxInt - 1, 64}, {math.MaxInt, 64},
}

// P10.1: New, Take.

func TestANewStreamHasNothing(t *testing.T) {
	for _, x := range sizes {
		s := New(x.size)
		if s.Count() != 0 || s.Held() != 0 {
			t.Errorf("New(%d): Count() = %d, Held() = %d", x.size, s.Count(), s.Held())
		}
		both(t, "a new stream", x.size)
	}
}

func TestSizes(t *testing.T) {
	for _, x := range sizes {
		s := New(x.size)
		for _, n := range []uint32{x.room + 1, x.room + 2, 2*x.room + 1, 1 << 16, 1 << 31, math.MaxUint32} {
			if l, e := s.Take(message(n, 1)); len(l) != 0 || e != api.ErrFull {
				t.Errorf("New(%d): Take of %d = %v, %d", x.size, n, seqs(l), e)
			}
		}
		l, e := s.Take(message(x.room, 2))
		if e != api.OK || (len(l) == 1) != (x.room == 1) {
			t.Errorf("New(%d): Take of %d = %v, %d", x.size, x.room, seqs(l), e)
		}
		if l, e := s.Take(message(x.room, 2)); len(l) != 0 || e != api.ErrTwice {
			t.Errorf("New(%d): Take of %d again = %v, %d", x.size, x.room, seqs(l), e)
		}
	}
}

func TestTheRoomGoesOnWithTheCount(t *testing.T) {
	for _, x := range sizes {
		s, m := both(t, "the room goes on", x.size)
		for count := uint32(0); count < 70; count++ {
			for _, n := range []uint32{count + x.room + 1, count + x.room + 2, count + 65, math.MaxUint32, count, 0} {
				take(t, s, m, message(n, 1), "out of the room")
			}
			c, mc := s.Copy(), m.copy()
			take(t, c, mc, message(count+x.room, 2), "the last one of the room")
			same(t, c, mc, "the last one of the room")
			if l := take(t, s, m, message(count+1, 3), "in order"); len(l) != 1 || s.Count() != count+1 {
				t.Fatalf("size %d: Take of %d = %v, Count() = %d", x.size, count+1, seqs(l), s.Count())
			}
		}
	}
}

func TestTheExample(t *testing.T) {
	s := New(2)
	two, one := message(2, 1), message(1, 2)
	if l, e := s.Take(two); len(l) != 0 || e != api.OK || s.Held() != 1 || s.Count() != 0 {
		t.Errorf("2: %v, %d", l, e)
	}
	if l, e := s.Take(one); !slices.EqualFunc(l, []api.Message{one, two}, equal) || e != api.OK || s.Held() != 0 || s.Count() != 2 {
		t.Errorf("1: %v, %d", l, e)
	}
}

// step: a message of that number comes; what is answered, and what the stream has behind it.
type step struct {
	seq   uint32
	e     api.Errno
	ready []uint32
	count uint32
	held  int
}

var rows = []struct {
	what string
	size int
	row  []step
}{
	{"in order", 3, []step{{1, 0, []uint32{1}, 1, 0}, {2, 0, []uint32{2}, 2, 0}, {3, 0, []uint32{3}, 3, 0}, {4, 0, []uint32{4}, 4, 0}}},
	{"turned about", 4, []step{{4, 0, nil, 0, 1}, {3, 0, nil, 0, 2}, {2, 0, nil, 0, 3}, {1, 0, []uint32{1, 2, 3, 4}, 4, 0}}},
	{"gaps", 6, []step{{2, 0, nil, 0, 1}, {4, 0, nil, 0, 2}, {6, 0, nil, 0, 3}, {1, 0, []uint32{1, 2}, 2, 2}, {5, 0, nil, 2, 3}, {3, 0, []uint32{3, 4, 5, 6}, 6, 0}}},
	{"a gap behind which there is another", 5, []step{{2, 0, nil, 0, 1}, {3, 0, nil, 0, 2}, {5, 0, nil, 0, 3}, {1, 0, []uint32{1, 2, 3}, 3, 1}, {4, 0, []uint32{4, 5}, 5, 0}}},
	{"doubled", 2, []step{{1, 0, []uint32{1}, 1, 0}, {1, 12, nil, 1, 0}, {3, 0, nil, 1, 1}, {3, 12, nil, 1, 1}, {2, 0, []uint32{2, 3}, 3, 0}, {3, 12, nil, 3, 0}, {2, 12, nil, 3, 0}, {1, 12, nil, 3, 0}}},
	{"some not at all", 3, []step{{1, 0, []uint32{1}, 1, 0}, {3, 0, nil, 1, 1}, {4, 0, nil, 1, 2}, {5, 6, nil, 1, 2}, {6, 6, nil, 1, 2}, {4, 12, nil, 1, 2}}},
	{"the number 0", 1, []step{{0, 1, nil, 0, 0}, {1, 0, []uint32{1}, 1, 0}, {0, 1, nil, 1, 0}}},
	{"the size 1", 1, []step{{2, 6, nil, 0, 0}, {1, 0, []uint32{1}, 1, 0}, {3, 6, nil, 1, 0}, {1, 12, nil, 1, 0}, {2, 0, []uint32{2}, 2, 0}}},
	{"the size 0 counts as 1", 0, []step{{2, 6, nil, 0, 0}, {1, 0, []uint32{1}, 1, 0}}},
	{"refused ones may come again", 2, []step{{3, 6, nil, 0, 0}, {2, 0, nil, 0, 1}, {3, 6, nil, 0, 1}, {1, 0, []uint32{1, 2}, 2, 0}, {3, 0, []uint32{3}, 3, 0}}},
	{"the greatest number", 2, []step{{math.MaxUint32, 6, nil, 0, 0}, {2, 0, nil, 0, 1}, {math.MaxUint32, 6, nil, 0, 1}, {1, 0, []uint32{1, 2}, 2, 0}, {math.MaxUint32, 6, nil, 2, 0}}},
}

func TestRows(t *testing.T) {
	for _, x := range rows {
		s, m := both(t, x.what, x.size)
		came := map[uint32]api.Message{}
		for i, p := range x.row {
			y := message(p.seq, i+1)
			if p.e == api.OK {
				came[p.seq] = y
			}
			l, e := s.Take(y)
			if e != p.e || !slices.Equal(seqs(l), p.ready) || s.Count() != p.count || s.Held() != p.held {
				t.Fatalf("%s: the message %d, of %d: %v, %d, Count() = %d, Held() = %d, want %+v", x.what, i, p.seq, seqs(l), e, s.Count(), s.Held(), p)
			}
			for _, z := range l {
				if !equal(z, came[z.Seq]) {
					t.Fatalf("%s: the message %d: %+v is answered, %+v came", x.what, i, z, came[z.Seq])
				}
			}
			if n, ok := s.Lacks(p.count + 1); n != p.count+1 || !ok {
				t.Fatalf("%s: the message %d: Lacks(%d) = %d, %v", x.what, i, p.count+1, n, ok)
			}
			if n, ok := s.Lacks(p.count); n != 0 || ok {
				t.Fatalf("%s: the message %d: Lacks(%d) = %d, %v", x.what, i, p.count, n, ok)
			}
			m.take(y)
			same(t, s, m, x.what)
		}
	}
}

func TestOneThatClosesAGapBehindWhichAllAreHeld(t *testing.T) {
	for _, x := range sizes {
		for _, ahead := range []uint32{0, 1, 5, 200} {
			s, m := both(t, "many are held", x.size)
			for n := uint32(1); n <= ahead; n++ {
				take(t, s, m, message(n, 1), "ahead of the gap")
			}
			for n := ahead + x.room; n > ahead+1; n-- {
				if l := take(t, s, m, message(n, int(n)), "behind the gap"); len(l) != 0 {
					t.Fatalf("size %d, ahead %d: Take of %d = %v", x.size, ahead, n, seqs(l))
				}
			}
			take(t, s, m, message(ahead+x.room+1, 2), "beyond the room")
			same(t, s, m, "all but one are held")
			if l := take(t, s, m, message(ahead+1, 3), "the gap is closed"); len(l) != int(x.room) || s.Held() != 0 || s.Count() != ahead+x.room {
				t.Fatalf("size %d, ahead %d: %v are answered, %d held, Count() = %d", x.size, ahead, seqs(l), s.Held(), s.Count())
			}
			same(t, s, m, "the gap is closed")
		}
	}
}

func TestOneThatIsHeldComesAgain(t *testing.T) {
	for _, n := range []uint32{2, 3, 9, 64} {
		s, m := both(t, "held", 64)
		first := message(n, 1)
		take(t, s, m, first, "it comes")
		other := api.Message{From: 7, Seq: n, Stamp: 99, Service: 2, Deps: []uint32{9, 9, 9, 9, 9}, Payload: "another one"}
		for _, y := range []api.Message{first, message(n, 2), other, {Seq: n}} {
			if l := take(t, s, m, y, "again"); len(l) != 0 {
				t.Fatalf("%d again: %v", n, l)
			}
			same(t, s, m, "again")
		}
		for k := uint32(1); k < n-1; k++ {
			take(t, s, m, message(k, 3), "ahead of it")
		}
		if l := take(t, s, m, message(n-1, 3), "ahead of it"); len(l) != 2 || !equal(l[1], first) {
			t.Fatalf("%d isn't answered as it came first: %+v", n, l)
		}
		for _, y := range []api.Message{first, other, {Seq: n}} {
			if l, e := s.Take(y); len(l) != 0 || e != api.ErrTwice {
				t.Fatalf("%d, answered, again: %v, %d", n, l, e)
			}
		}
	}
}

func TestWhichErrorIsTold(t *testing.T) {
	for _, x := range []struct {
		what string
		size int
		row  []uint32
		seq  uint32
		want api.Errno
	}{
		{"0, which is not above the count either, of none", 1, nil, 0, api.ErrRange},
		{"0, which is not above the count either", 3, []uint32{1, 2}, 0, api.ErrRange},
		{"0, while some are held", 3, []uint32{2, 3}, 0, api.ErrRange},
		{"0, while the room is full but for one", 2, []uint32{2}, 0, api.ErrRange},
		{"1 at the count 1", 3, []uint32{1}, 1, api.ErrTwice},
		{"below the count", 3, []uint32{1, 2, 3}, 2, api.ErrTwice},
		{"at the count", 3, []uint32{1, 2, 3}, 3, api.ErrTwice},
		{"held at the end of the room", 3, []uint32{3}, 3, api.ErrTwice},
		{"held, with others", 3, []uint32{2, 3}, 2, api.ErrTwice},
		{"at the count and the size", 3, []uint32{1, 2}, 5, api.OK},
		{"one above that", 3, []uint32{1, 2}, 6, api.ErrFull},
		{"one above that, while some are held", 3, []uint32{1, 3, 4}, 5, api.ErrFull},
		{"one above the size, at the count 0", 3, []uint32{2, 3}, 4, api.ErrFull},
		{"far above", 3, []uint32{1}, 1 << 31, api.ErrFull},
		{"the greatest number", 64, []uint32{1}, math.MaxUint32, api.ErrFull},
	} {
		s, m := both(t, x.what, x.size, messages(x.row...)...)
		for range 2 {
			_, e := s.Copy().Take(message(x.seq, 9))
			if e != x.want {
				t.Errorf("%s: Take of %d = %d, want %d", x.what, x.seq, e, x.want)
			}
		}
		take(t, s, m, message(x.seq, 9), x.what)
		same(t, s, m, x.what)
		if l, e := s.Take(api.Message{Seq: x.seq, From: -1, Stamp: math.MaxUint64, Service: 99}); x.want != api.OK && (e != x.want || len(l) != 0) {
			t.Errorf("%s: Take of %d, of other contents = %v, %d, want %d", x.what, x.seq, l, e, x.want)
		}
	}
}

// Who sent a message, and what else it says, is nothing to the stream.
func TestAllFieldsAreAnsweredAsTheyCame(t *testing.T) {
	odd := []api.Message{
		{Seq: 1}, {Seq: 2, From: -1}, {Seq: 3, From: 64}, {Seq: 4, From: math.MaxInt}, {Seq: 5, From: math.MinInt},
		{Seq: 6, Stamp: math.MaxUint64}, {Seq: 7, Service: -1}, {Seq: 8, Service: math.MaxInt}, {Seq: 9, Deps: []uint32{}},
		{Seq: 10, Deps: []uint32{0, math.MaxUint32}}, {Seq: 11, Deps: make([]uint32, 3000)}, {Seq: 12, Payload: "\x00\xff"}, {Seq: 13, Payload: string(make([]byte, 40000))},
	}
	s, m := both(t, "in order", 64, odd...)
	if s.Count() != 13 || m.count() != 13 {
		t.Errorf("in order: Count() = %d", s.Count())
	}
	slices.Reverse(odd)
	s, m = both(t, "turned about", 13, odd...)
	if s.Count() != 13 || m.count() != 13 {
		t.Errorf("turned about: Count() = %d", s.Count())
	}
}

// Near the greatest number the count and the size go round, where a row of calls doesn't come.
func TestNearTheGreatestNumber(t *testing.T) {
	s := &Stream{size: 64, count: math.MaxUint32 - 3, held: map[uint32]api.Message{}}
	for _, n := range []uint32{0, 1, 2, 60, 61, 1 << 31, math.MaxUint32 - 4, math.MaxUint32 - 3} {
		want := api.ErrTwice
		if n == 0 {
			want = api.ErrRange
		}
		if l, e := s.Take(message(n, 1)); len(l) != 0 || e != want {
			t.Errorf("Take of %d = %v, %d", n, seqs(l), e)
		}
	}
	for i, n := range []uint32{math.MaxUint32, math.MaxUint32 - 1} {
		if l, e := s.Take(message(n, 1)); len(l) != 0 || e != api.OK || s.Held() != i+1 {
			t.Errorf("Take of %d = %v, %d", n, seqs(l), e)
		}
	}
	if n, ok := s.Lacks(math.MaxUint32); n != math.MaxUint32-2 || !ok {
		t.Errorf("Lacks = %d, %v", n, ok)
	}
	if l, e := s.Take(message(math.MaxUint32-2, 1)); len(l) != 3 || e != api.OK || s.Count() != math.MaxUint32 || s.Held() != 0 {
		t.Errorf("the last gap is closed: %v, %d", seqs(l), e)
	}
	if n, ok := s.Lacks(math.MaxUint32); n != 0 || ok {
		t.Errorf("Lacks at the end = %d, %v", n, ok)
	}
	if l, e := s.Take(message(math.MaxUint32, 2)); len(l) != 0 || e != api.ErrTwice {
		t.Errorf("the greatest one again: %v, %d", seqs(l), e)
	}
}

// P10.2: Count, Held, Lacks, Copy.

func TestLacks(t *testing.T) {
	for _, x := range []struct {
		what string
		row  []uint32
		upto uint32
		want uint32
		ok   bool
	}{
		{"none came, up to 0", nil, 0, 0, false},
		{"none came, up to 1", nil, 1, 1, true},
		{"none came, up to 2", nil, 2, 1, true},
		{"none came, up to the greatest number", nil, math.MaxUint32, 1, true},
		{"0", []uint32{1, 2, 3}, 0, 0, false},
		{"far below the count", []uint32{1, 2, 3}, 1, 0, false},
		{"one below the count", []uint32{1, 2, 3}, 2, 0, false},
		{"the count", []uint32{1, 2, 3}, 3, 0, false},
		{"one above the count", []uint32{1, 2, 3}, 4, 4, true},
		{"two above the count", []uint32{1, 2, 3}, 5, 4, true},
		{"beyond the room", []uint32{1, 2, 3}, 99, 4, true},
		{"the greatest number", []uint32{1, 2, 3}, math.MaxUint32, 4, true},
		{"up to one that is held", []uint32{1, 3}, 3, 2, true},
		{"up to one behind which another is held", []uint32{1, 4}, 3, 2, true},
		{"up to the gap itself", []uint32{1, 3, 4}, 2, 2, true},
		{"only held ones", []uint32{2, 3}, 3, 1, true},
		{"the gap was closed", []uint32{2, 1}, 2, 0, false},
		{"the gap was closed, one above", []uint32{2, 1}, 3, 3, true},
	} {
		s, _ := both(t, x.what, 8, messages(x.row...)...)
		for range 2 {
			if n, ok := s.Lacks(x.upto); n != x.want || ok != x.ok {
				t.Errorf("%s: Lacks(%d) = %d, %v, want %d, %v", x.what, x.upto, n, ok, x.want, x.ok)
			}
		}
	}
}

func TestCopiesGoTheirOwnWays(t *testing.T) {
	for _, x := range sizes {
		for _, row := range [][]uint32{nil, {1}, {1, 2, 3}, {2}, {1, 3, 4}, {2, 3, 5}, {64, 3, 2}} {
			s, m := both(t, "what is copied", x.size, messages(row...)...)
			c, mc := s.Copy(), m.copy()
			same(t, c, mc, "a copy")
			for i, n := range []uint32{1, 4, 2, 99, 3, 6, 0, 5, 65} {
				take(t, s, m, message(n, 10+i), "what was copied")
				same(t, c, mc, "a copy, while the other one goes on")
			}
			for i, n := range []uint32{2, 0, 5, 4, 1, 64, 3, 99} {
				take(t, c, mc, message(n, 30+i), "a copy")
				same(t, s, m, "what was copied, while the copy goes on")
			}
			same(t, c, mc, "a copy")
			d, md := c.Copy(), mc.copy()
			take(t, c, mc, message(7, 50), "a copy")
			take(t, c, mc, message(6, 51), "a copy")
			same(t, d, md, "a copy of a copy")
		}
	}
}

func TestACopyHasTheSize(t *testing.T) {
	for _, x := range sizes {
		c := New(x.size).Copy().Copy()
		if l, e := c.Take(message(x.room+1, 1)); len(l) != 0 || e != api.ErrFull {
			t.Errorf("size %d: Take of %d = %v, %d", x.size, x.room+1, seqs(l), e)
		}
		if _, e := c.Take(message(x.room, 1)); e != api.OK {
			t.Errorf("size %d: Take of %d = %d", x.size, x.room, e)
		}
	}
}

func TestStreamsAreOfTheirOwn(t *testing.T) {
	s, m := both(t, "a stream", 4, messages(1, 3)...)
	other, mo := both(t, "another one", 4, messages(2)...)
	take(t, s, m, message(2, 5), "a stream")
	same(t, other, mo, "the other one")
	take(t, other, mo, message(1, 6), "the other one")
	same(t, s, m, "a stream")
}

// What is handed in and what is answered is nobody else's.

func TestWhatIsHandedInIsNotKept(t *testing.T) {
	for _, row := range [][]uint32{{1}, {1, 2}, {2, 1}, {3, 2, 1}} {
		s := New(4)
		var in, want, out []api.Message
		for i, n := range row {
			room := []uint32{10 + uint32(i), 20, 30, 77, 78}
			m := message(n, i+1)
			m.Deps = room[:3]
			want = append(want, api.Message{From: m.From, Seq: m.Seq, Stamp: m.Stamp, Service: m.Service, Deps: slices.Clone(m.Deps), Payload: m.Payload})
			in = append(in, m)
			l, _ := s.Take(m)
			if !slices.Equal(room, []uint32{10 + uint32(i), 20, 30, 77, 78}) {
				t.Fatalf("%v: what was handed in was changed: %v", row, room)
			}
			out = append(out, l...)
			for k := range room { // whoever handed it in works on
				room[k] = 1000
			}
		}
		slices.SortFunc(want, func(a, b api.Message) int { return int(a.Seq) - int(b.Seq) })
		if !slices.EqualFunc(out, want, equal) {
			t.Errorf("%v: answered %+v, want %+v", row, out, want)
		}
		for _, m := range out { // whoever was answered works on
			for k := range m.Deps[:cap(m.Deps)] {
				m.Deps[:cap(m.Deps)][k] = 2000
			}
		}
		for _, m := range in {
			if !slices.Equal(m.Deps[:5], []uint32{1000, 1000, 1000, 1000, 1000}) {
				t.Errorf("%v: what was answered is what was handed in: %v", row, m.Deps[:5])
			}
		}
	}
}

// spoil: all that these lists have, and their spare room, is written over.
func spoil(l []api.Message) {
	for _, m := range l {
		for k := range m.Deps[:cap(m.Deps)] {
			m.Deps[:cap(m.Deps)][k] = 4000
		}
	}
	for k := range l[:cap(l)] {
		l[:cap(l)][k] = api.Message{Seq: 4000}
	}
}

func TestAnswersAreNewMemory(t *testing.T) {
	m := api.Message{Seq: 1, Deps: []uint32{1, 2, 3}}
	next := m
	next.Seq = 2
	s := New(8)
	s.Take(next)
	l, _ := s.Take(m)
	if len(l) != 2 {
		t.Fatal(l)
	}
	l[0].Deps[0] = 99 // both were handed in with the same Deps
	if l[1].Deps[0] != 1 || m.Deps[0] != 1 {
		t.Errorf("two lists share: %v, %v", l, m)
	}
	for _, n := range []uint32{5, 4, 3} {
		x := message(n, 3)
		got, e := s.Take(x)
		if e != api.OK {
			t.Fatal(e)
		}
		if n == 3 && !slices.EqualFunc(got, []api.Message{message(3, 3), message(4, 3), message(5, 3)}, equal) {
			t.Errorf("behind a spoilt answer: %+v", got)
		}
		spoil(l)
		spoil(got)
	}
	same(t, s, &told{size: 8, taken: messages(1, 2, 3, 4, 5)}, "behind spoilt answers")
}

func TestACopySharesNoMemory(t *testing.T) {
	for _, first := range []string{"the copy", "what was copied"} {
		s := New(8)
		for n := uint32(2); n <= 5; n++ {
			s.Take(message(n, 3))
		}
		a, b := s, s.Copy()
		if first == "the copy" {
			a, b = b, a
		}
		l, _ := a.Take(message(1, 3))
		spoil(l)
		got, e := b.Take(message(1, 3))
		if want := []api.Message{message(1, 3), message(2, 3), message(3, 3), message(4, 3), message(5, 3)}; e != api.OK || !slices.EqualFunc(got, want, equal) {
			t.Errorf("%s answers first: then %+v, %d", first, got, e)
		}
	}
}

// P10.3: whatever comes in whatever order, as often as it likes: what is answered is the sender's messages, each once, in their order.

// answered: whether all answers, one behind the other, are the sender's messages from 1 on, each as it came first.
func answered(t *testing.T, s *Stream, m *told, out []api.Message, what string) {
	t.Helper()
	if len(out) != int(s.Count()) {
		t.Fatalf("%s: %d are answered, Count() = %d", what, len(out), s.Count())
	}
	for i, x := range out {
		if int(x.Seq) != i+1 || !equal(x, m.taken[m.first(uint64(x.Seq))]) {
			t.Fatalf("%s: size %d, taken %v: answered %+v", what, m.size, seqs(m.taken), out)
		}
	}
}

func TestAllOrders(t *testing.T) {
	var walk func(s *Stream, m *told, out []api.Message, left []uint32)
	walk = func(s *Stream, m *told, out []api.Message, left []uint32) {
		answered(t, s, m, out, "an order")
		if len(left) == 0 && (len(out) != 7 || s.Held() != 0) {
			t.Fatalf("size %d, taken %v: %d are answered", m.size, seqs(m.taken), len(out))
		}
		for i, n := range left {
			c, mc := s.Copy(), m.copy()
			l := take(t, c, mc, message(n, i+1), "an order")
			walk(c, mc, slices.Concat(out, l), slices.Delete(slices.Clone(left), i, i+1))
		}
	}
	for _, size := range []int{7, 8, 64} {
		s, m := both(t, "all orders", size)
		walk(s, m, nil, []uint32{1, 2, 3, 4, 5, 6, 7})
	}
}

// All rows of up to six numbers of a menu, each on a copy, of which what was copied knows nothing.
func TestAllRowsOfAMenu(t *testing.T) {
	var walk func(s *Stream, m *told, out []api.Message, deep int)
	walk = func(s *Stream, m *told, out []api.Message, deep int) {
		same(t, s, m, "a row")
		answered(t, s, m, out, "a row")
		if deep == 0 {
			return
		}
		before := state(s)
		for n := range uint32(7) {
			c, mc := s.Copy(), m.copy()
			l := take(t, c, mc, message(n, deep), "a row")
			walk(c, mc, slices.Concat(out, l), deep-1)
		}
		if !reflect.DeepEqual(s, before) {
			t.Fatalf("size %d, taken %v: a copy's calls changed the stream", m.size, seqs(m.taken))
		}
	}
	for _, x := range []struct{ size, deep int }{{-1, 5}, {0, 5}, {1, 6}, {2, 6}, {3, 6}, {4, 6}, {6, 5}, {65, 5}} {
		s, m := both(t, "rows", x.size)
		walk(s, m, nil, x.deep)
	}
}

// Rows that look like chance, about the room and beyond it.
func TestRowsThatLookLikeChance(t *testing.T) {
	for seed := range 46 {
		d := turned(seed)
		x := sizes[seed%len(sizes)]
		s, m := both(t, "chance", x.size)
		var out []api.Message
		for k := range 250 {
			n := s.Count() + uint32(d.below(int(x.room)+3))
			switch d.below(12) {
			case 0:
				n = uint32(d.below(int(s.Count()) + 1))
			case 1:
				n = math.MaxUint32 - uint32(d.below(3))
			case 2:
				n = s.Count() + 1
			}
			out = append(out, take(t, s, m, message(n, k), "chance")...)
			same(t, s, m, "chance")
			answered(t, s, m, out, "chance")
		}
	}
}

// A sender's 300 messages: each is sent till all within the room came, some are lost on their way, some come late and more than once.
func TestASenderWhoSendsAgain(t *testing.T) {
	for seed := range 24 {
		d := turned(1000 + seed)
		size := []int{1, 2, 5, 16, 63, 64}[seed%6]
		s, m := both(t, "a sender", size)
		var out []api.Message
		var late []uint32
		for len(out) < 300 {
			n, ok := s.Lacks(300)
			if !ok {
				t.Fatalf("seed %d: nothing lacks, but %d are answered", seed, len(out))
			}
			n = min(n+uint32(d.below(size)), 300)
			late = append(late, n)
			if d.below(3) == 0 { // it is lost, or late
				continue
			}
			out = append(out, take(t, s, m, message(n, int(n)), "a sender")...)
			out = append(out, take(t, s, m, message(late[d.below(len(late))], 5), "late")...)
		}
		answered(t, s, m, out, "a sender")
		same(t, s, m, "a sender")
		if n, ok := s.Lacks(300); n != 0 || ok || s.Held() != 0 {
			t.Errorf("seed %d: at the end Lacks(300) = %d, %v, Held() = %d", seed, n, ok, s.Held())
		}
	}
}

// What is kept is what is held: never as many as the size.
func TestFewerThanTheSizeAreHeld(t *testing.T) {
	for _, x := range sizes {
		s, m := both(t, "much comes", x.size)
		for n := uint32(400); n > 1; n-- {
			take(t, s, m, message(n, 1), "much comes")
		}
		if s.Held() != int(x.room)-1 || len(s.held) != s.Held() {
			t.Errorf("size %d: %d are held", x.size, s.Held())
		}
	}
}
