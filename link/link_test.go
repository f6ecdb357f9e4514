package link

import (
	"fmt"
	"math"
	"slices"
	"testing"

	"consort/api"
	"consort/set"
)

// call: of Next, with its reserve, or of Got, with p and n.
type call struct {
	next    bool
	reserve int
	p       int
	n       uint32
}

func next(reserve int) call     { return call{next: true, reserve: reserve} }
func got(p int, n uint32) call  { return call{p: p, n: n} }
func nexts(n int) []call        { return slices.Repeat([]call{next(0)}, n) }
func joined(l ...[]call) []call { return slices.Concat(l...) }

// bits: the set of these.
func bits(l ...int) set.Set {
	var s set.Set
	for _, p := range l {
		s |= 1 << p
	}
	return s
}

// told: a window as the chapter's words have it. It keeps all messages that were sent, of each those that got it, and works out each answer anew from them.
type told struct {
	me      int
	members set.Set
	size    int
	row     []uint64
}

// other: is p one of the other members?
func (m *told) other(p int) bool {
	return p >= 0 && p <= 63 && p != m.me && uint64(m.members)>>p&1 == 1
}

// others: all of these, as a number.
func (m *told) others() uint64 {
	var s uint64
	for p := range 64 {
		if m.other(p) {
			s |= 1 << p
		}
	}
	return s
}

// bound: the size, as it counts.
func (m *told) bound() int {
	switch {
	case m.size < 1:
		return 1
	case m.size > 64:
		return 64
	}
	return m.size
}

// open: how many messages one of the others lacks.
func (m *told) open() int {
	n, all := 0, m.others()
	for _, who := range m.row {
		if who&all != all {
			n++
		}
	}
	return n
}

// room: is there, where so many are open? No size is above 64, so a greater reserve says no more than that.
func (m *told) room(open, reserve int) bool {
	return open+min(max(reserve, 0), 65) < m.bound()
}

// counts: how many messages each process got, of these that are members; me all of them.
func (m *told) counts() map[int]uint32 {
	out := map[int]uint32{}
	for p := range 64 {
		if m.other(p) {
			out[p] = m.has(p)
		}
	}
	out[m.me] = uint32(len(m.row))
	return out
}

// has: how many messages p got.
func (m *told) has(p int) uint32 {
	var n uint32
	for _, who := range m.row {
		if who>>p&1 == 1 {
			n++
		}
	}
	return n
}

// low: up to which number all others got all.
func (m *told) low() uint32 {
	all := m.others()
	for i, who := range m.row {
		if who&all != all {
			return uint32(i)
		}
	}
	return uint32(len(m.row))
}

// lag: those of the others that lack one.
func (m *told) lag() uint64 {
	var s uint64
	for p := range 64 {
		if m.other(p) && int(m.has(p)) < len(m.row) {
			s |= 1 << p
		}
	}
	return s
}

func (m *told) next(reserve int) (uint32, api.Errno) {
	if !m.room(m.open(), reserve) {
		return 0, 6
	}
	m.row = append(m.row, 0)
	return uint32(len(m.row)), 0
}

func (m *told) got(p int, n uint32) {
	for i := range m.row {
		if m.other(p) && uint64(i) < uint64(n) {
			m.row[i] |= 1 << p
		}
	}
}

func (m *told) copy() *told {
	return &told{me: m.me, members: m.members, size: m.size, row: slices.Clone(m.row)}
}

// reserves: those of which Room is asked: at the edges, at the size, and at what is left of it.
func (m *told) reserves() []int {
	size, left := m.bound(), m.bound()-m.open()
	return append([]int{size - 1, size, size + 1, left - 2, left - 1, left, left + 1}, reserves...)
}

// reserves: at the edges, whatever the size.
var reserves = []int{math.MinInt, math.MinInt + 1, -1 << 32, -1<<32 + 1, -65, -64, -1, 0, 1, 2, 62, 63, 64, 65, 1 << 31, 1 << 32, 1<<32 + 1, math.MaxInt - 1, math.MaxInt}

// odd: numbers that are no process.
var odd = []int{math.MinInt, math.MinInt + 1, -1 << 32, -64, -63, -2, -1, 64, 65, 66, 127, 128, 1 << 32, 1<<32 + 1, math.MaxInt - 1, math.MaxInt}

// processes: all of them, and numbers that are none.
func processes() []int {
	out := slices.Clone(odd)
	for p := range 64 {
		out = append(out, p)
	}
	return out
}

// same: whether w answers as m does, and twice, since an answer leaves the window as it is.
func same(t *testing.T, w *Window, m *told, what string) {
	t.Helper()
	before, counts, open := *w, m.counts(), m.open()
	for range 2 {
		if w.Sent() != uint32(len(m.row)) || w.Low() != m.low() || uint64(w.Lag()) != m.lag() {
			t.Fatalf("%s: %+v: Sent() = %d, Low() = %d, Lag() = %b, want %d, %d, %b", what, *m, w.Sent(), w.Low(), w.Lag(), len(m.row), m.low(), m.lag())
		}
		for _, p := range processes() {
			if n := w.Of(p); n != counts[p] {
				t.Fatalf("%s: %+v: Of(%d) = %d, want %d", what, *m, p, n, counts[p])
			}
		}
		for _, r := range m.reserves() {
			if room := w.Room(r); room != m.room(open, r) {
				t.Fatalf("%s: %+v: Room(%d) = %v", what, *m, r, room)
			}
		}
	}
	if *w != before {
		t.Fatalf("%s: %+v: an answer changed the window", what, *m)
	}
}

// do: the call is made on both, which answer the same, and P11.3 holds behind it.
func do(t *testing.T, w *Window, m *told, c call, what string) {
	t.Helper()
	before := *w
	if c.next {
		want, wantE := m.next(c.reserve)
		if n, e := w.Next(c.reserve); n != want || e != wantE {
			t.Fatalf("%s: %+v: Next(%d) = %d, %d, want %d, %d", what, *m, c.reserve, n, e, want, wantE)
		}
		if wantE != api.OK && *w != before {
			t.Fatalf("%s: %+v: Next(%d), refused, changed the window", what, *m, c.reserve)
		}
	} else {
		m.got(c.p, c.n)
		w.Got(c.p, c.n)
	}
	bounded(t, &before, w, m, what)
}

// bounded: whether no more than the size are sent that one of the others didn't get, and nobody got less than before.
func bounded(t *testing.T, before, w *Window, m *told, what string) {
	t.Helper()
	for p := range 64 {
		if w.Of(p) < before.Of(p) || w.Of(p) > w.Sent() {
			t.Fatalf("%s: %+v: Of(%d) = %d, and was %d, of %d", what, *m, p, w.Of(p), before.Of(p), w.Sent())
		}
		if m.other(p) && (int(w.Sent()-w.Of(p)) > m.bound() || len(m.row)-int(m.has(p)) > m.bound()) {
			t.Fatalf("%s: %+v: %d got %d of %d that were sent", what, *m, p, w.Of(p), w.Sent())
		}
	}
	if w.Low() < before.Low() || w.Sent() < before.Sent() || int(w.Sent()-w.Low()) > m.bound() {
		t.Fatalf("%s: %+v: Sent() = %d, and was %d; Low() = %d, and was %d", what, *m, w.Sent(), before.Sent(), w.Low(), before.Low())
	}
}

// both: a window and what it was told: these calls, each answer held against the other.
func both(t *testing.T, what string, me int, members set.Set, size int, row ...call) (*Window, *told) {
	t.Helper()
	w, m := New(me, members, size), &told{me: me, members: members, size: size}
	same(t, w, m, what+", at the beginning")
	for i, c := range row {
		do(t, w, m, c, what)
		same(t, w, m, fmt.Sprint(what, ", behind the call ", i))
	}
	return w, m
}

// turned: numbers that look like chance, the same ones each time.
type turned uint64

func (d *turned) below(n int) int {
	*d = *d*6364136223846793005 + 1442695040888963407
	return int(uint64(*d) >> 33 % uint64(n))
}

// sizes: those that are to be, and those beyond them, each with what it counts as.
var sizes = []struct{ size, room int }{
	{math.MinInt, 1}, {math.MinInt + 1, 1}, {-1 << 32, 1}, {-1<<32 + 5, 1}, {-64, 1}, {-1, 1}, {0, 1}, {1, 1}, {2, 2}, {3, 3}, {31, 31}, {32, 32}, {62, 62}, {63, 63}, {64, 64}, {65, 64}, {66, 64}, {128, 64}, {1 << 31, 64}, {1 << 32, 64}, {1<<32 + 1, 64}, {math.MaxInt - 1, 64}, {math.MaxInt, 64},
}

// whose: who has the window: processes, and what is none.
var whose = []int{math.MinInt, -1 << 32, -64, -63, -1, 0, 1, 2, 31, 62, 63, 64, 65, 127, 128, 1 << 32, 1<<32 + 2, math.MaxInt}

// circles: members of all shapes.
var circles = []set.Set{0, 1, 2, 4, 5, 7, 1 << 31, 1 << 62, 1 << 63, 1<<63 | 1, 3 << 62, 0x5555555555555555, math.MaxUint64 - 1, math.MaxUint64 >> 1, math.MaxUint64}

// P11.1: New, Room, Next.

func TestANewWindowSentNothing(t *testing.T) {
	for _, me := range whose {
		for _, members := range circles {
			for _, x := range sizes {
				w := New(me, members, x.size)
				if w.Sent() != 0 || w.Low() != 0 || w.Lag() != 0 || w.Of(me) != 0 || !w.Room(0) || !w.Room(x.room-1) || w.Room(x.room) {
					t.Errorf("New(%d, %x, %d): Sent() = %d, Low() = %d, Lag() = %x", me, members, x.size, w.Sent(), w.Low(), w.Lag())
				}
				same(t, w, &told{me: me, members: members, size: x.size}, "a new window")
			}
		}
	}
}

func TestTheExample(t *testing.T) {
	w := New(0, bits(0, 1), 2)
	for _, want := range []uint32{1, 2} {
		if n, e := w.Next(0); n != want || e != api.OK {
			t.Errorf("%d: %d, %d", want, n, e)
		}
	}
	if n, e := w.Next(0); n != 0 || e != api.ErrFull {
		t.Errorf("behind 2: %d, %d", n, e)
	}
	w.Got(1, 1)
	if n, e := w.Next(0); n != 3 || e != api.OK {
		t.Errorf("the other one got 1: %d, %d", n, e)
	}
}

func TestAsManyAsTheSizeAreSentAhead(t *testing.T) {
	for _, x := range sizes {
		for _, members := range circles {
			if members == 0 || members == bits(1) { // nobody else
				continue
			}
			w := New(1, members, x.size)
			for n := range uint32(x.room) {
				if got, e := w.Next(0); got != n+1 || e != api.OK {
					t.Fatalf("size %d, members %x: the message %d: %d, %d", x.size, members, n+1, got, e)
				}
			}
			for range 3 {
				if n, e := w.Next(0); n != 0 || e != api.ErrFull || w.Room(0) || w.Room(-1) || w.Sent() != uint32(x.room) {
					t.Fatalf("size %d, members %x: one more: %d, %d, Sent() = %d", x.size, members, n, e, w.Sent())
				}
			}
		}
	}
}

func TestOneMoreIsSentWhereTheLastOneGotOneMore(t *testing.T) {
	for _, x := range sizes {
		w, m := both(t, "the room goes on", 0, bits(0, 1, 5, 63), x.size)
		for range x.room {
			do(t, w, m, next(0), "the room goes on")
		}
		for n := uint32(1); n <= 150; n++ {
			for i, p := range []int{5, 63, 1} {
				do(t, w, m, got(p, n), "the room goes on")
				if last := i == 2; w.Room(0) != last || (w.Low() == n) != last {
					t.Fatalf("size %d: %d got %d: Room(0) = %v, Low() = %d", x.size, p, n, w.Room(0), w.Low())
				}
			}
			do(t, w, m, next(1), "no more beside a reserve")
			do(t, w, m, next(0), "one more")
			do(t, w, m, next(0), "and no more")
			if w.Sent() != uint32(x.room)+n {
				t.Fatalf("size %d: Sent() = %d", x.size, w.Sent())
			}
		}
		same(t, w, m, "the room goes on")
	}
}

func TestReserves(t *testing.T) {
	for _, x := range sizes {
		for _, ahead := range []uint32{0, 1, 100} {
			w := New(1, bits(0, 1, 63), x.size)
			for n := range ahead {
				w.Next(0)
				w.Got(0, n+1)
				w.Got(63, n+1)
			}
			for open := range x.room + 1 {
				reservesOf(t, w, x.room, open, ahead)
				w.Next(0)
			}
		}
	}
}

// reservesOf: whether a window of that size, of whose messages so many are open, has the room that it is to have beside each reserve.
func reservesOf(t *testing.T, w *Window, size, open int, ahead uint32) {
	t.Helper()
	free := size - open // so many may be sent yet: a reserve of as many leaves none
	l := slices.Concat(reserves, []int{size - 1, size, size + 1, free - 1, free, free + 1})
	for _, r := range l {
		room := free > 0 && r < free
		c, before := w.Copy(), *w
		n, e := c.Next(r)
		if w.Room(r) != room || (e == api.OK) != room || *w != before {
			t.Fatalf("size %d, %d open behind %d: Room(%d) = %v, Next = %d, %d", size, open, ahead, r, w.Room(r), n, e)
		}
		if room && (n != ahead+uint32(open)+1 || c.Sent() != n) {
			t.Fatalf("size %d, %d open behind %d: Next(%d) = %d, Sent() = %d", size, open, ahead, r, n, c.Sent())
		}
		if !room && (n != 0 || e != api.ErrFull || *c != before) {
			t.Fatalf("size %d, %d open behind %d: Next(%d) = %d, %d", size, open, ahead, r, n, e)
		}
	}
}

// What was refused beside a reserve is sent without it, under the number that it would have had.
func TestARefusedOneHasNoNumber(t *testing.T) {
	w := New(0, bits(0, 1), 3)
	for _, x := range []struct {
		reserve int
		n       uint32
		e       api.Errno
	}{
		{3, 0, 6}, {math.MaxInt, 0, 6}, {2, 1, 0}, {2, 0, 6}, {1, 2, 0}, {1, 0, 6}, {2, 0, 6}, {0, 3, 0}, {0, 0, 6}, {-1, 0, 6}, {math.MinInt, 0, 6},
	} {
		if n, e := w.Next(x.reserve); n != x.n || e != x.e {
			t.Errorf("Next(%d) = %d, %d, want %d, %d", x.reserve, n, e, x.n, x.e)
		}
	}
	if w.Sent() != 3 || w.Low() != 0 || w.Of(1) != 0 || w.Lag() != bits(1) {
		t.Errorf("Sent() = %d, Low() = %d", w.Sent(), w.Low())
	}
}

func TestMeIsAMemberWhetherInMembersOrNot(t *testing.T) {
	for me := range 64 {
		for _, members := range circles {
			with, without := members|1<<me, members&^(1<<me)
			w, m := both(t, "with me", me, with, 4)
			v, n := both(t, "without me", me, without, 4)
			for _, c := range joined(nexts(3), []call{got(me, 1), got(0, 2), got(63, 1), got(2, 9)}, nexts(3)) {
				do(t, w, m, c, "with me")
				do(t, v, n, c, "without me")
				same(t, w, m, "with me")
				same(t, v, n, "without me")
				same(t, w, n, "with me, held against the other one")
			}
			if w.Of(me) != w.Sent() || w.Lag().Has(me) {
				t.Errorf("me %d: Of(me) = %d of %d, Lag() = %x", me, w.Of(me), w.Sent(), w.Lag())
			}
		}
	}
}

func TestMeThatIsNoProcess(t *testing.T) {
	for _, me := range odd {
		for _, members := range circles {
			w, m := both(t, "me is none", me, members, 5, nexts(3)...)
			for _, p := range []int{0, 1, 2, 62, 63} { // among them those whose lowest bits are those of me
				do(t, w, m, got(p, 2), "me is none")
				do(t, w, m, got(me, 3), "me is none")
				same(t, w, m, "me is none")
			}
			if w.Of(me) != 3 {
				t.Errorf("me %d, members %x: Of(me) = %d", me, members, w.Of(me))
			}
		}
	}
}

// Without other members all is got as it is sent: there is room but for the reserve, and nobody lags.
func TestWithoutOthers(t *testing.T) {
	for _, x := range sizes {
		for _, y := range []struct {
			me      int
			members set.Set
		}{{3, 0}, {3, 8}, {0, 0}, {0, 1}, {63, 1 << 63}, {63, 0}, {-1, 0}, {64, 0}, {math.MaxInt, 0}} {
			w := New(y.me, y.members, x.size)
			for n := uint32(1); n <= 300; n++ {
				if c, e := w.Next(x.room); c != 0 || e != api.ErrFull || w.Sent() != n-1 {
					t.Fatalf("size %d: Next of the whole size = %d, %d", x.size, c, e)
				}
				if got, e := w.Next(x.room - 1); got != n || e != api.OK {
					t.Fatalf("size %d: the message %d: %d, %d", x.size, n, got, e)
				}
				w.Got(y.me, n-1)
				w.Got(5, 1)
				if w.Sent() != n || w.Low() != n || w.Of(y.me) != n || w.Lag() != 0 || w.Of(5) != 0 || !w.Room(0) || !w.Room(x.room-1) || w.Room(x.room) {
					t.Fatalf("size %d, me %d: Sent() = %d, Low() = %d, Of(me) = %d, Lag() = %x", x.size, y.me, w.Sent(), w.Low(), w.Of(y.me), w.Lag())
				}
			}
		}
	}
}

// step: a call, the number and the error that a Next answers, and what the window has behind it: free is how many may be sent yet, of is of the processes 0 to 3.
type step struct {
	c    call
	num  uint32
	e    api.Errno
	sent uint32
	low  uint32
	lag  set.Set
	free int
	of   [4]uint32
}

var rows = []struct {
	what    string
	me      int
	members set.Set
	size    int
	row     []step
}{
	{"Next and Got between each other", 1, 7, 3, []step{
		{next(0), 1, 0, 1, 0, 5, 2, [4]uint32{0, 1, 0, 0}},
		{next(0), 2, 0, 2, 0, 5, 1, [4]uint32{0, 2, 0, 0}},
		{got(0, 1), 0, 0, 2, 0, 5, 1, [4]uint32{1, 2, 0, 0}},
		{got(2, 2), 0, 0, 2, 1, 1, 2, [4]uint32{1, 2, 2, 0}},
		{next(1), 3, 0, 3, 1, 5, 1, [4]uint32{1, 3, 2, 0}},
		{next(1), 0, 6, 3, 1, 5, 1, [4]uint32{1, 3, 2, 0}},
		{next(0), 4, 0, 4, 1, 5, 0, [4]uint32{1, 4, 2, 0}},
		{next(0), 0, 6, 4, 1, 5, 0, [4]uint32{1, 4, 2, 0}},
		{got(0, 99), 0, 0, 4, 2, 4, 1, [4]uint32{4, 4, 2, 0}},
		{got(0, 3), 0, 0, 4, 2, 4, 1, [4]uint32{4, 4, 2, 0}},
		{got(2, 1), 0, 0, 4, 2, 4, 1, [4]uint32{4, 4, 2, 0}},
		{got(2, 0), 0, 0, 4, 2, 4, 1, [4]uint32{4, 4, 2, 0}},
		{got(2, 4), 0, 0, 4, 4, 0, 3, [4]uint32{4, 4, 4, 0}},
		{next(2), 5, 0, 5, 4, 5, 2, [4]uint32{4, 5, 4, 0}},
	}},
	{"what wasn't sent can't be got", 0, 3, 2, []step{
		{got(1, 1), 0, 0, 0, 0, 0, 2, [4]uint32{}},
		{got(1, math.MaxUint32), 0, 0, 0, 0, 0, 2, [4]uint32{}},
		{next(0), 1, 0, 1, 0, 2, 1, [4]uint32{1, 0, 0, 0}},
		{next(0), 2, 0, 2, 0, 2, 0, [4]uint32{2, 0, 0, 0}},
		{next(0), 0, 6, 2, 0, 2, 0, [4]uint32{2, 0, 0, 0}},
		{got(1, 3), 0, 0, 2, 2, 0, 2, [4]uint32{2, 2, 0, 0}},
		{next(0), 3, 0, 3, 2, 2, 1, [4]uint32{3, 2, 0, 0}},
	}},
	{"strangers get nothing", 0, 3, 2, []step{
		{next(0), 1, 0, 1, 0, 2, 1, [4]uint32{1, 0, 0, 0}},
		{got(2, 1), 0, 0, 1, 0, 2, 1, [4]uint32{1, 0, 0, 0}},
		{got(-1, 1), 0, 0, 1, 0, 2, 1, [4]uint32{1, 0, 0, 0}},
		{got(64, 1), 0, 0, 1, 0, 2, 1, [4]uint32{1, 0, 0, 0}},
		{got(65, 1), 0, 0, 1, 0, 2, 1, [4]uint32{1, 0, 0, 0}},
		{got(0, 1), 0, 0, 1, 0, 2, 1, [4]uint32{1, 0, 0, 0}},
		{got(1, 1), 0, 0, 1, 1, 0, 2, [4]uint32{1, 1, 0, 0}},
	}},
	{"the size 0 counts as 1", 3, 5, 0, []step{
		{next(1), 0, 6, 0, 0, 0, 1, [4]uint32{}},
		{next(0), 1, 0, 1, 0, 5, 0, [4]uint32{0, 0, 0, 1}},
		{next(0), 0, 6, 1, 0, 5, 0, [4]uint32{0, 0, 0, 1}},
		{got(0, 1), 0, 0, 1, 0, 4, 0, [4]uint32{1, 0, 0, 1}},
		{got(2, 1), 0, 0, 1, 1, 0, 1, [4]uint32{1, 0, 1, 1}},
		{next(-1), 2, 0, 2, 1, 5, 0, [4]uint32{1, 0, 1, 2}},
	}},
	{"nobody else", 2, 4, 2, []step{
		{next(0), 1, 0, 1, 1, 0, 2, [4]uint32{0, 0, 1, 0}},
		{next(1), 2, 0, 2, 2, 0, 2, [4]uint32{0, 0, 2, 0}},
		{next(2), 0, 6, 2, 2, 0, 2, [4]uint32{0, 0, 2, 0}},
		{got(0, 2), 0, 0, 2, 2, 0, 2, [4]uint32{0, 0, 2, 0}},
		{next(0), 3, 0, 3, 3, 0, 2, [4]uint32{0, 0, 3, 0}},
	}},
}

func TestRows(t *testing.T) {
	for _, x := range rows {
		w := New(x.me, x.members, x.size)
		for i, p := range x.row {
			if !p.c.next {
				w.Got(p.c.p, p.c.n)
			} else if n, e := w.Next(p.c.reserve); n != p.num || e != p.e {
				t.Fatalf("%s: the call %d: Next(%d) = %d, %d, want %d, %d", x.what, i, p.c.reserve, n, e, p.num, p.e)
			}
			after(t, w, p, fmt.Sprint(x.what, ": the call ", i))
		}
		var l []call
		for _, p := range x.row {
			l = append(l, p.c)
		}
		both(t, x.what, x.me, x.members, x.size, l...)
	}
}

// after: whether w has what the step says.
func after(t *testing.T, w *Window, p step, what string) {
	t.Helper()
	if w.Sent() != p.sent || w.Low() != p.low || w.Lag() != p.lag {
		t.Fatalf("%s: Sent() = %d, Low() = %d, Lag() = %b, want %+v", what, w.Sent(), w.Low(), w.Lag(), p)
	}
	if w.Room(p.free) || w.Room(p.free-1) != (p.free > 0) || w.Room(0) != (p.free > 0) {
		t.Fatalf("%s: Room of %d, and of one less: %v, %v", what, p.free, w.Room(p.free), w.Room(p.free-1))
	}
	for q, n := range p.of {
		if w.Of(q) != n {
			t.Fatalf("%s: Of(%d) = %d, want %d", what, q, w.Of(q), n)
		}
	}
}

// P11.2: Got, Of, Sent, Low, Lag, Copy.

func TestGot(t *testing.T) {
	// Of four messages 0 got two, 2 and 63 got all, 40 none; 1 is me.
	start := joined(nexts(4), []call{got(0, 2), got(2, 4), got(63, 4)})
	for _, x := range []struct {
		what string
		p    int
		n    uint32
		want uint32
		low  uint32
		lag  set.Set
	}{
		{"0", 0, 0, 2, 0, bits(0, 40)},
		{"less than it got", 0, 1, 2, 0, bits(0, 40)},
		{"just that", 0, 2, 2, 0, bits(0, 40)},
		{"one more", 0, 3, 3, 0, bits(0, 40)},
		{"all", 0, 4, 4, 0, bits(40)},
		{"one more than was sent", 0, 5, 4, 0, bits(40)},
		{"1 << 31", 0, 1 << 31, 4, 0, bits(40)},
		{"the greatest number", 0, math.MaxUint32, 4, 0, bits(40)},
		{"0, of one that got none", 40, 0, 0, 0, bits(0, 40)},
		{"the first one", 40, 1, 1, 1, bits(0, 40)},
		{"as many as the least of the others", 40, 2, 2, 2, bits(0, 40)},
		{"more than the least of the others", 40, 3, 3, 2, bits(0, 40)},
		{"all, of one that got none", 40, 4, 4, 2, bits(0)},
		{"all and more, of one that got none", 40, 9, 4, 2, bits(0)},
		{"the greatest number, of one that got none", 40, math.MaxUint32, 4, 2, bits(0)},
		{"0, of one that got all", 63, 0, 4, 0, bits(0, 40)},
		{"all, of one that got all", 63, 4, 4, 0, bits(0, 40)},
		{"the greatest number, of one that got all", 63, math.MaxUint32, 4, 0, bits(0, 40)},
		{"0, of me", 1, 0, 4, 0, bits(0, 40)},
		{"1, of me", 1, 1, 4, 0, bits(0, 40)},
		{"the greatest number, of me", 1, math.MaxUint32, 4, 0, bits(0, 40)},
		{"of what is no member", 3, 4, 0, 0, bits(0, 40)},
		{"of another that is no member", 62, 4, 0, 0, bits(0, 40)},
		{"of -1", -1, 4, 0, 0, bits(0, 40)},
		{"of 64", 64, 4, 0, 0, bits(0, 40)},
		{"of 64 and 40", 104, 4, 0, 0, bits(0, 40)},
		{"of 40, less 64", -24, 4, 0, 0, bits(0, 40)},
		{"of 2^32 and 40", 1<<32 + 40, 4, 0, 0, bits(0, 40)},
		{"of the least number", math.MinInt, 4, 0, 0, bits(0, 40)},
		{"of the greatest number", math.MaxInt, 4, 0, 0, bits(0, 40)},
	} {
		w, m := both(t, x.what, 1, bits(0, 1, 2, 40, 63), 8, start...)
		for range 2 {
			before := *w
			do(t, w, m, got(x.p, x.n), x.what)
			same(t, w, m, x.what)
			if w.Of(x.p) != x.want || w.Low() != x.low || w.Lag() != x.lag || w.Sent() != 4 {
				t.Errorf("%s: Of(%d) = %d, Low() = %d, Lag() = %x, want %d, %d, %x", x.what, x.p, w.Of(x.p), w.Low(), w.Lag(), x.want, x.low, x.lag)
			}
			if w.Of(x.p) == before.Of(x.p) && *w != before {
				t.Errorf("%s: nothing is got, but the window is another one", x.what)
			}
		}
	}
}

func TestGotOfWhatIsNoOtherMemberChangesNothing(t *testing.T) {
	for _, me := range whose {
		for _, members := range circles {
			w, m := both(t, "it sent", me, members, 6, nexts(4)...)
			before := *w
			for _, p := range processes() {
				if m.other(p) {
					continue
				}
				for _, n := range []uint32{0, 1, 4, 5, math.MaxUint32} {
					w.Got(p, n)
					if *w != before {
						t.Fatalf("me %d, members %x: Got(%d, %d) changed the window", me, members, p, n)
					}
				}
			}
		}
	}
}

// What was told to be got ahead of its being sent isn't got by being sent.
func TestAnEarlyGotCountsForNothingLater(t *testing.T) {
	w := New(0, bits(0, 7), 4)
	for n := uint32(1); n <= 3; n++ {
		w.Got(7, math.MaxUint32)
		if got, e := w.Next(0); got != n || e != api.OK || w.Of(7) != n-1 || w.Low() != n-1 || w.Lag() != bits(7) {
			t.Errorf("the message %d: %d, %d, Of(7) = %d, Low() = %d", n, got, e, w.Of(7), w.Low())
		}
	}
}

func TestAllSixtyFourMembers(t *testing.T) {
	for me := range 64 {
		w, m := both(t, "all", me, math.MaxUint64, 64, nexts(64)...)
		for p := range 64 {
			if p != me { // each got another number
				do(t, w, m, got(p, uint32(p+1)), "all")
			}
		}
		same(t, w, m, "all")
		least := uint32(1)
		if me == 0 {
			least = 2
		}
		if w.Low() != least || w.Lag() != set.All(63).Less(me) || w.Room(int(least)) || !w.Room(int(least)-1) {
			t.Errorf("me %d: Low() = %d, Lag() = %x", me, w.Low(), w.Lag())
		}
		for p := range 64 {
			if want := uint32(p + 1); p != me && w.Of(p) != want || p == me && w.Of(p) != 64 {
				t.Errorf("me %d: Of(%d) = %d", me, p, w.Of(p))
			}
		}
	}
}

// Each of the others alone may be the one that lags, and holds all up.
func TestTheOneThatLags(t *testing.T) {
	for _, members := range circles {
		for p := range 64 {
			m := &told{me: 1, members: members, size: 3}
			if !m.other(p) {
				continue
			}
			w := New(1, members, 3)
			for _, c := range nexts(3) {
				do(t, w, m, c, "one lags")
			}
			for q := range 64 {
				if q != p {
					do(t, w, m, got(q, 3), "one lags")
				}
			}
			same(t, w, m, "one lags")
			if w.Lag() != 1<<p || w.Low() != 0 || w.Room(0) {
				t.Errorf("members %x: all but %d got all: Lag() = %x, Low() = %d", members, p, w.Lag(), w.Low())
			}
			do(t, w, m, got(p, 3), "nobody lags")
			if same(t, w, m, "nobody lags"); w.Lag() != 0 || w.Low() != 3 || !w.Room(2) {
				t.Errorf("members %x: all got all: Lag() = %x, Low() = %d", members, w.Lag(), w.Low())
			}
		}
	}
}

func TestCopiesGoTheirOwnWays(t *testing.T) {
	for _, x := range sizes {
		for _, members := range circles {
			for _, row := range [][]call{nil, nexts(1), nexts(2), {next(0), got(0, 1), next(0), got(63, 2)}, joined(nexts(4), []call{got(2, 1), got(0, 64)})} {
				w, m := both(t, "what is copied", 1, members, x.size, row...)
				c, mc := w.Copy(), m.copy()
				same(t, c, mc, "a copy")
				for _, y := range []call{next(0), got(0, 1), got(63, 9), got(2, 2), next(1), next(0)} {
					do(t, w, m, y, "what was copied")
				}
				same(t, c, mc, "a copy, while the other one went on")
				for _, y := range []call{got(2, 9), next(0), got(0, 9), next(0), got(63, 1), next(2)} {
					do(t, c, mc, y, "a copy")
				}
				same(t, w, m, "what was copied, while the copy went on")
				d, md := c.Copy(), mc.copy()
				do(t, c, mc, got(0, 99), "a copy")
				do(t, c, mc, next(0), "a copy")
				same(t, d, md, "a copy of a copy")
			}
		}
	}
}

func TestACopyHasAllThatItWasCopiedOf(t *testing.T) {
	for _, me := range whose {
		for _, x := range sizes {
			w, m := both(t, "what is copied", me, bits(0, 5, 63), x.size, next(0), got(5, 1), next(0), got(0, 1))
			c := w.Copy().Copy()
			if *c != *w || c == w {
				t.Fatalf("me %d, size %d: the copy is another one, or no copy", me, x.size)
			}
			same(t, c, m, "a copy")
			for range 2 {
				do(t, c, m, got(63, 1), "a copy")
				do(t, c, m, next(0), "a copy")
			}
			same(t, c, m, "a copy")
		}
	}
}

func TestWindowsAreOfTheirOwn(t *testing.T) {
	w, m := both(t, "a window", 0, bits(0, 1), 4, next(0), got(1, 1))
	other, mo := both(t, "another one", 0, bits(0, 1), 4, nexts(3)...)
	do(t, w, m, next(0), "a window")
	same(t, other, mo, "the other one")
	do(t, other, mo, got(1, 2), "the other one")
	same(t, w, m, "a window")
}

// Far numbers, where a row of calls here doesn't come: the differences stay small.
func TestFarNumbers(t *testing.T) {
	for _, sent := range []uint32{math.MaxInt32 - 1, math.MaxInt32, 1 << 31, 1<<31 + 1, math.MaxUint32 - 64, math.MaxUint32 - 2} {
		w := New(0, bits(0, 1, 63), 3)
		w.sent, w.got[1], w.got[63] = sent, sent-1, sent
		if w.Sent() != sent || w.Low() != sent-1 || w.Lag() != bits(1) || w.Of(0) != sent || w.Of(63) != sent || !w.Room(1) || w.Room(2) {
			t.Errorf("%d: Sent() = %d, Low() = %d, Lag() = %x", sent, w.Sent(), w.Low(), w.Lag())
		}
		for i, want := range []api.Errno{0, 0, 6} {
			n, e := w.Next(0)
			if e != want || want == 0 && n != sent+uint32(i)+1 || want != 0 && n != 0 {
				t.Errorf("%d: the message %d: %d, %d", sent, i, n, e)
			}
		}
		w.Got(1, math.MaxUint32)
		w.Got(63, 1)
		if w.Of(1) != sent+2 || w.Of(63) != sent || w.Low() != sent || w.Lag() != bits(63) || w.Room(1) || !w.Room(0) {
			t.Errorf("%d: Of(1) = %d, Of(63) = %d, Low() = %d", sent, w.Of(1), w.Of(63), w.Low())
		}
		alone := New(0, bits(0), 3)
		alone.sent = sent
		if n, e := alone.Next(2); n != sent+1 || e != api.OK || alone.Low() != n || alone.Lag() != 0 || !alone.Room(2) || alone.Room(3) {
			t.Errorf("%d, alone: Next = %d, %d, Low() = %d", sent, n, e, alone.Low())
		}
	}
}

// P11.3: never are more than the size sent that one of the others didn't get; what was got is never less than it was. (Each call in this file is held against it, too.)

// All rows of a menu, each on a copy, of which what was copied knows nothing.
func TestAllRowsOfAMenu(t *testing.T) {
	menu := []call{next(0), next(1), next(-7), got(0, 1), got(0, 3), got(2, 1), got(2, 2), got(2, math.MaxUint32), got(1, 2), got(5, 2)}
	var walk func(w *Window, m *told, deep int)
	walk = func(w *Window, m *told, deep int) {
		same(t, w, m, "a row")
		if deep == 0 {
			return
		}
		before := *w
		for _, c := range menu {
			v, n := w.Copy(), m.copy()
			do(t, v, n, c, "a row")
			walk(v, n, deep-1)
		}
		if *w != before {
			t.Fatalf("%+v: a copy's calls changed the window", *m)
		}
	}
	for _, x := range []struct {
		me      int
		members set.Set
		size    int
		deep    int
	}{{1, 7, 2, 5}, {1, 5, 3, 4}, {1, 7, 1, 4}, {0, 4, 2, 4}, {2, 4, 2, 3}, {64, 5, 2, 4}, {1, math.MaxUint64, 2, 3}} {
		w, m := both(t, "rows", x.me, x.members, x.size)
		walk(w, m, x.deep)
	}
}

// Rows that look like chance, in windows of all sizes and members.
func TestRowsThatLookLikeChance(t *testing.T) {
	for seed := range 60 {
		d := turned(seed)
		me, members, size := whose[d.below(len(whose))], circles[d.below(len(circles))], sizes[seed%len(sizes)]
		w, m := both(t, "chance", me, members, size.size)
		for range 200 {
			c := next(d.below(size.room+2) - 1)
			switch d.below(5) {
			case 0:
				c = next(0)
			case 1:
				c = got(d.below(66)-1, w.Sent()+uint32(d.below(3)))
			case 2, 3:
				p := d.below(66) - 1
				c = got(p, w.Of(p)+uint32(d.below(size.room+2))-1) // one less than none is the greatest number
			}
			do(t, w, m, c, "chance")
			same(t, w, m, "chance")
		}
	}
}

// A sender's 400 messages to three others, who take them as they come, each at its own pace; what they tell comes late, more than once, or not at all.
func TestASenderWhoseOthersTellLate(t *testing.T) {
	for seed := range 24 {
		d := turned(3000 + seed)
		size := []int{1, 2, 5, 16, 63, 64}[seed%6]
		w, m := both(t, "a sender", 2, bits(0, 1, 2, 63), size)
		took := map[int]uint32{}
		late := []call{got(0, 0)}
		for w.Low() < 400 {
			if w.Sent() < 400 {
				do(t, w, m, next(d.below(2)), "a sender")
			}
			p := []int{0, 1, 63}[d.below(3)]
			took[p] += uint32(d.below(int(w.Sent()-took[p]) + 1))
			late = append(late, got(p, took[p]))
			if d.below(3) > 0 {
				do(t, w, m, got(p, took[p]), "a sender")
			}
			do(t, w, m, late[d.below(len(late))], "late")
			if w.Of(p) > took[p] {
				t.Fatalf("seed %d: %d took %d, Of = %d", seed, p, took[p], w.Of(p))
			}
		}
		same(t, w, m, "a sender")
		if w.Sent() != 400 || w.Lag() != 0 || !w.Room(size-1) {
			t.Errorf("seed %d: at the end Sent() = %d, Lag() = %x", seed, w.Sent(), w.Lag())
		}
	}
}
