package horizon

import (
	"fmt"
	"math"
	"reflect"
	"slices"
	"testing"

	"consort/set"
)

// call: what a horizon is told: by which of its calls, of whom, up to which number, and the stamp.
type call struct {
	by    string
	p     int
	seq   uint32
	stamp uint64
}

func stamp() call                           { return call{by: "Stamp"} }
func see(s uint64) call                     { return call{by: "See", stamp: s} }
func came(p int, n uint32, s uint64) call   { return call{by: "Came", p: p, seq: n, stamp: s} }
func vow(p int, s uint64, n uint32) call    { return call{by: "Promise", p: p, seq: n, stamp: s} }
func reached(p int, s uint64) call          { return call{by: "Reached", p: p, stamp: s} }
func bits(l ...int) (s set.Set)             { return s.With(l...) }
func joined(l ...[]call) []call             { return slices.Concat(l...) }
func ofThree(f func(p int) call) (l []call) { return []call{f(0), f(2), f(63)} }

// told: a horizon as the chapter's words have it. It keeps all that was told, and works out each answer anew from that.
type told struct {
	me      int
	members set.Set
	row     []call
}

// other: is p one of the other members?
func (m *told) other(p int) bool {
	return p >= 0 && p <= 63 && p != m.me && uint64(m.members)>>p&1 == 1
}

// others: all of these, rising.
func (m *told) others() []int {
	var out []int
	for p := range 64 {
		if m.other(p) {
			out = append(out, p)
		}
	}
	return out
}

// of: what was told of the other member p by one of these calls.
func (m *told) of(p int, by ...string) []call {
	var out []call
	for _, x := range m.row {
		if x.p == p && m.other(p) && slices.Contains(by, x.by) {
			out = append(out, x)
		}
	}
	return out
}

func (m *told) clock() uint64 {
	var c uint64
	for _, x := range m.row {
		switch {
		case x.by == "Stamp" && c < math.MaxUint64:
			c++
		case x.by == "See" && x.stamp > c, (x.by == "Came" || x.by == "Promise") && m.other(x.p) && x.stamp > c:
			c = x.stamp
		}
	}
	return c
}

// heard: p's heard mark: the greatest stamp of those that came, and of the promises that count.
func (m *told) heard(p int) uint64 {
	var mark uint64
	l := m.of(p, "Came", "Promise")
	for i, x := range l {
		if x.stamp > mark && (x.by == "Came" || counts(l, i)) {
			mark = x.stamp
		}
	}
	return mark
}

// counts: does the promise l[i], since what came last ahead of it was enough, or something behind it?
func counts(l []call, i int) bool {
	var last uint32
	for k, x := range l {
		switch {
		case x.by != "Came":
		case k < i:
			last = x.seq
		case x.seq >= l[i].seq:
			return true
		}
	}
	return last >= l[i].seq
}

// reached: p's reached mark.
func (m *told) reached(p int) uint64 {
	var mark uint64
	for _, x := range m.of(p, "Reached") {
		mark = max(mark, x.stamp)
	}
	return mark
}

func (m *told) all() uint64 {
	least := m.clock()
	for _, p := range m.others() {
		least = min(least, m.heard(p))
	}
	return least
}

func (m *told) safe() uint64 {
	least := m.all()
	for _, p := range m.others() {
		least = min(least, m.reached(p))
	}
	return least
}

func (m *told) copy() *told {
	return &told{me: m.me, members: m.members, row: slices.Clone(m.row)}
}

// heardOf: how far h heard p: the horizon of a copy, of which all else is at the end.
func heardOf(h *Horizon, others []int, p int) uint64 {
	c := h.Copy()
	c.See(math.MaxUint64)
	for _, q := range others {
		if q != p {
			c.Came(q, 0, math.MaxUint64)
		}
	}
	return c.All()
}

// reachedOf: how far p reached, as h was told: the safe mark of a copy, of which all else is at the end.
func reachedOf(h *Horizon, others []int, p int) uint64 {
	c := h.Copy()
	c.See(math.MaxUint64)
	for _, q := range others {
		c.Came(q, 0, math.MaxUint64)
		if q != p {
			c.Reached(q, math.MaxUint64)
		}
	}
	return c.Safe()
}

// state: all that a horizon has, to be held against what it has later.
func state(h *Horizon) *Horizon {
	out := *h
	out.waiting = append([]promise{}, h.waiting...)
	return &out
}

// unchanged: whether h is as it was.
func unchanged(t *testing.T, h, was *Horizon, what string) {
	t.Helper()
	if now := state(h); !reflect.DeepEqual(now, was) {
		t.Fatalf("%s: the horizon was changed: %+v, and was %+v", what, now, was)
	}
}

// same: whether h answers as m does, and has its marks; answers leave it as it is.
func same(t *testing.T, h *Horizon, m *told, what string) {
	t.Helper()
	was := state(h)
	for range 2 {
		if clock, all, safe := m.clock(), m.all(), m.safe(); h.Clock() != clock || h.All() != all || h.Safe() != safe {
			t.Fatalf("%s: %+v: %d, %d, %d, want %d, %d, %d", what, *m, h.Clock(), h.All(), h.Safe(), clock, all, safe)
		}
	}
	others := m.others()
	for _, p := range others {
		if x, y := heardOf(h, others, p), reachedOf(h, others, p); x != m.heard(p) || y != m.reached(p) {
			t.Fatalf("%s: %+v: the marks of %d are %d, %d, want %d, %d", what, *m, p, x, y, m.heard(p), m.reached(p))
		}
	}
	unchanged(t, h, was, what+": by answers")
}

// tell: the call is made on h.
func tell(h *Horizon, c call) (answer uint64) {
	switch c.by {
	case "Stamp":
		return h.Stamp()
	case "See":
		h.See(c.stamp)
	case "Came":
		h.Came(c.p, c.seq, c.stamp)
	case "Promise":
		h.Promise(c.p, c.stamp, c.seq)
	case "Reached":
		h.Reached(c.p, c.stamp)
	}
	return 0
}

// do: the call is made on both, which answer the same, and P13.4 holds behind it.
func do(t *testing.T, h *Horizon, m *told, c call, what string) {
	t.Helper()
	was := state(h)
	m.row = append(m.row, c)
	if s := tell(h, c); c.by == "Stamp" && s != m.clock() {
		t.Fatalf("%s: %+v: Stamp() = %d, want %d", what, *m, s, m.clock())
	}
	steady(t, h, was, m, what)
}

// steady: whether no mark fell, the safe mark isn't above the horizon, nor that above the clock, and with nobody else both are the clock.
func steady(t *testing.T, h, was *Horizon, m *told, what string) {
	t.Helper()
	clock, all, safe := h.Clock(), h.All(), h.Safe()
	if clock < was.Clock() || all < was.All() || safe < was.Safe() {
		t.Fatalf("%s: %+v: %d, %d, %d, and it was %d, %d, %d", what, *m, clock, all, safe, was.Clock(), was.All(), was.Safe())
	}
	if safe > all || all > clock {
		t.Fatalf("%s: %+v: the clock is %d, the horizon %d, the safe mark %d", what, *m, clock, all, safe)
	}
	others := m.others()
	if len(others) == 0 && (all != clock || safe != clock) {
		t.Fatalf("%s: %+v: nobody else, but %d, %d, %d", what, *m, clock, all, safe)
	}
	if c := m.row[len(m.row)-1]; m.other(c.p) && (heardOf(h, others, c.p) < heardOf(was, others, c.p) || reachedOf(h, others, c.p) < reachedOf(was, others, c.p)) {
		t.Fatalf("%s: %+v: a mark of %d fell", what, *m, c.p)
	}
}

// both: a horizon and what it was told: these calls, each answer held against the other.
func both(t *testing.T, what string, me int, members set.Set, row ...call) (*Horizon, *told) {
	t.Helper()
	h, m := New(me, members), &told{me: me, members: members}
	same(t, h, m, what+", at the beginning")
	for i, c := range row {
		do(t, h, m, c, what)
		same(t, h, m, fmt.Sprint(what, ", behind the call ", i))
	}
	return h, m
}

// turned: numbers that look like chance, the same ones each time.
type turned uint64

func (d *turned) below(n int) int {
	*d = *d*6364136223846793005 + 1442695040888963407
	return int(uint64(*d) >> 33 % uint64(n))
}

// odd: numbers that are no process; the lowest bits of some are those of one.
var odd = []int{math.MinInt, math.MinInt + 1, -1 << 32, -1<<32 + 2, -64, -63, -2, -1, 64, 65, 66, 127, 128, 1 << 32, 1<<32 + 1, math.MaxInt - 1, math.MaxInt}

// processes: all of them, and numbers that are none.
func processes() []int {
	out := slices.Clone(odd)
	for p := range 64 {
		out = append(out, p)
	}
	return out
}

// whose: who has the horizon: processes, and what is none.
var whose = []int{math.MinInt, -1 << 32, -64, -63, -1, 0, 1, 2, 31, 62, 63, 64, 65, 127, 128, 1 << 32, 1<<32 + 2, math.MaxInt}

// circles: members of all shapes.
var circles = []set.Set{0, 1, 2, 4, 5, 7, 1 << 31, 1 << 62, 1 << 63, 1<<63 | 1, 3 << 62, 0x5555555555555555, math.MaxUint64 - 1, math.MaxUint64 >> 1, math.MaxUint64}

// stamps: about a mark, and at both ends.
func stamps(mark uint64) []uint64 {
	out := []uint64{0, 1, mark, mark + 1, mark + 2, 1 << 31, 1 << 32, 1 << 63, math.MaxUint64 - 1, math.MaxUint64}
	if mark > 0 {
		out = append(out, mark-1)
	}
	return out
}

// numbers: of messages, at both ends and between.
var numbers = []uint32{0, 1, 2, 3, 4, 5, 1 << 31, math.MaxUint32 - 1, math.MaxUint32}

// P13.1: New, Stamp, See, Clock.

func TestANewHorizonHeardNothing(t *testing.T) {
	for _, me := range whose {
		for _, members := range circles {
			h := New(me, members)
			if h.Clock() != 0 || h.All() != 0 || h.Safe() != 0 {
				t.Errorf("New(%d, %x): %d, %d, %d", me, members, h.Clock(), h.All(), h.Safe())
			}
			m := &told{me: me, members: members}
			same(t, h, m, "a new one")
			for _, p := range m.others() { // nothing waits: whatever came, only its own stamp is heard
				do(t, h, m, came(p, math.MaxUint32, 3), "a new one")
			}
			same(t, h, m, "a new one, of which all came")
		}
	}
}

func TestTheExample(t *testing.T) {
	h := New(0, bits(0, 1))
	h.Came(1, 1, 4)
	if h.All() != 4 || h.Safe() != 0 {
		t.Errorf("it came up to 1 of the stamp 4: %d, %d", h.All(), h.Safe())
	}
	h.Reached(1, 4)
	if h.All() != 4 || h.Safe() != 4 {
		t.Errorf("it reached 4: %d, %d", h.All(), h.Safe())
	}
}

func TestStampsRiseByOne(t *testing.T) {
	for _, members := range circles {
		h := New(1, members)
		for n := uint64(1); n <= 300; n++ {
			if s := h.Stamp(); s != n || h.Clock() != n {
				t.Fatalf("members %x: the stamp %d: %d, Clock() = %d", members, n, s, h.Clock())
			}
		}
	}
}

func TestStampFromAClockOn(t *testing.T) {
	const top = math.MaxUint64
	for _, x := range []struct{ clock, want uint64 }{
		{0, 1}, {1, 2}, {41, 42}, {1<<31 - 1, 1 << 31}, {1<<32 - 2, 1<<32 - 1}, {1<<32 - 1, 1 << 32}, {1<<63 - 1, 1 << 63}, {1 << 63, 1<<63 + 1}, {top - 2, top - 1}, {top - 1, top}, {top, top},
	} {
		for _, first := range []call{see(x.clock), came(0, 1, x.clock), vow(0, x.clock, 0), vow(0, x.clock, 9)} {
			h, m := both(t, "a clock", 1, bits(0, 1), first)
			if s := h.Stamp(); s != x.want || h.Clock() != x.want {
				t.Errorf("%+v: Stamp() = %d, Clock() = %d, want %d", first, s, h.Clock(), x.want)
			}
			m.row = append(m.row, stamp())
			same(t, h, m, "a stamp")
			do(t, h, m, stamp(), "one more")
			do(t, h, m, stamp(), "and one more")
			same(t, h, m, "and one more")
		}
	}
}

func TestTheClockStaysAtTheGreatest(t *testing.T) {
	h := New(0, bits(0, 1))
	h.See(math.MaxUint64 - 2)
	for i, want := range []uint64{math.MaxUint64 - 1, math.MaxUint64, math.MaxUint64, math.MaxUint64} {
		if s := h.Stamp(); s != want || h.Clock() != want {
			t.Errorf("the stamp %d: %d, Clock() = %d", i, s, h.Clock())
		}
	}
	h.See(0)
	h.See(5)
	if h.Clock() != math.MaxUint64 {
		t.Errorf("seen less: %d", h.Clock())
	}
}

func TestSee(t *testing.T) {
	for _, clock := range stamps(40) {
		for _, s := range stamps(clock) {
			h := New(3, bits(0, 3))
			h.See(clock)
			if h.Clock() != clock {
				t.Fatalf("See(%d): %d", clock, h.Clock())
			}
			h.See(s)
			if want := max(clock, s); h.Clock() != want || h.All() != 0 || h.Safe() != 0 {
				t.Errorf("See(%d) at %d: %d, %d, %d", s, clock, h.Clock(), h.All(), h.Safe())
			}
			both(t, "see", 3, bits(0, 3), see(clock), see(s), stamp(), see(s))
		}
	}
}

// A stamp isn't heard of anybody by being made or seen.
func TestStampAndSeeMoveNoMark(t *testing.T) {
	for _, me := range whose {
		for _, members := range circles {
			h, m := both(t, "marks", me, members)
			for _, p := range m.others() {
				do(t, h, m, came(p, 1, 7), "marks")
				do(t, h, m, reached(p, 5), "marks")
			}
			all, safe := h.All(), h.Safe()
			for _, c := range []call{see(50), stamp(), see(3), see(math.MaxUint64), stamp()} {
				do(t, h, m, c, "marks")
				if len(m.others()) > 0 && (h.All() != all || h.Safe() != safe) {
					t.Errorf("%+v: %d, %d", c, h.All(), h.Safe())
				}
			}
			same(t, h, m, "marks")
		}
	}
}

// P13.2: Came, Promise, Reached.

// started: 0 came up to 3 and reached 5; three others, of whom 2 was heard least, are elsewhere.
func started(t *testing.T, what string) (*Horizon, *told) {
	return both(t, what, 1, bits(0, 1, 2, 40, 63), came(0, 1, 4), came(0, 3, 10), reached(0, 5), came(2, 1, 20), reached(2, 30), came(40, 2, 25), reached(40, 19), came(63, 9, 29), reached(63, 7), see(30))
}

func TestCame(t *testing.T) {
	for _, x := range []struct {
		stamp, clock, heard, all uint64
	}{
		{0, 30, 10, 10}, {1, 30, 10, 10}, {9, 30, 10, 10}, {10, 30, 10, 10}, {11, 30, 11, 11}, {19, 30, 19, 19}, {20, 30, 20, 20}, {21, 30, 21, 20}, {29, 30, 29, 20}, {30, 30, 30, 20}, {31, 31, 31, 20}, {1 << 32, 1 << 32, 1 << 32, 20}, {math.MaxUint64 - 1, math.MaxUint64 - 1, math.MaxUint64 - 1, 20}, {math.MaxUint64, math.MaxUint64, math.MaxUint64, 20},
	} {
		for _, n := range numbers {
			h, m := started(t, "came")
			for range 2 {
				do(t, h, m, came(0, n, x.stamp), "came")
				same(t, h, m, "came")
				if got := heardOf(h, m.others(), 0); h.Clock() != x.clock || h.All() != x.all || h.Safe() != 5 || got != x.heard {
					t.Errorf("Came(0, %d, %d): %d, %d, %d, heard %d, want %+v", n, x.stamp, h.Clock(), h.All(), h.Safe(), got, x)
				}
			}
		}
	}
}

func TestPromise(t *testing.T) {
	for _, s := range append(stamps(10), stamps(30)...) {
		for _, n := range numbers {
			h, m := started(t, "a promise")
			do(t, h, m, vow(0, s, n), "a promise")
			same(t, h, m, "a promise")
			heard := uint64(10)
			if n <= 3 { // it counts at once
				heard = max(heard, s)
			}
			if got := heardOf(h, m.others(), 0); h.Clock() != max(30, s) || h.All() != min(heard, 20) || h.Safe() != 5 || got != heard {
				t.Errorf("Promise(0, %d, %d): %d, %d, %d, heard %d, want %d", s, n, h.Clock(), h.All(), h.Safe(), got, heard)
			}
			do(t, h, m, came(0, n, 0), "so many came")
			same(t, h, m, "so many came")
			if got := heardOf(h, m.others(), 0); got != max(10, s) {
				t.Errorf("Promise(0, %d, %d), and so many came: heard %d", s, n, got)
			}
		}
	}
}

func TestReached(t *testing.T) {
	for _, x := range []struct{ stamp, mark, safe uint64 }{
		{0, 5, 5}, {1, 5, 5}, {4, 5, 5}, {5, 5, 5}, {6, 6, 6}, {7, 7, 7}, {8, 8, 7}, {10, 10, 7}, {30, 30, 7}, {31, 31, 7}, {math.MaxUint64 - 1, math.MaxUint64 - 1, 7}, {math.MaxUint64, math.MaxUint64, 7},
	} {
		h, m := started(t, "reached")
		for range 2 {
			do(t, h, m, reached(0, x.stamp), "reached")
			same(t, h, m, "reached")
			if got := reachedOf(h, m.others(), 0); h.Clock() != 30 || h.All() != 10 || h.Safe() != x.safe || got != x.mark {
				t.Errorf("Reached(0, %d): %d, %d, %d, reached %d, want %+v", x.stamp, h.Clock(), h.All(), h.Safe(), got, x)
			}
		}
	}
}

func TestAPromiseThatWaitsMovesTheClockAlone(t *testing.T) {
	for _, members := range circles {
		for _, n := range numbers {
			h, m := both(t, "it waits", 1, members)
			for _, p := range m.others() {
				do(t, h, m, came(p, n/2, 6), "it waits")
				do(t, h, m, reached(p, 4), "it waits")
			}
			for i, p := range m.others() {
				if n/2 == n { // it doesn't wait
					continue
				}
				was := state(h)
				do(t, h, m, vow(p, uint64(100+i), n), "it waits")
				if h.Clock() != uint64(100+i) || h.All() != was.All() || h.Safe() != was.Safe() || heardOf(h, m.others(), p) != 6 || reachedOf(h, m.others(), p) != 4 {
					t.Errorf("members %x: Promise(%d, %d, %d): %d, %d, %d", members, p, 100+i, n, h.Clock(), h.All(), h.Safe())
				}
				if h.marks != was.marks {
					t.Errorf("members %x: a promise that waits changed the marks", members)
				}
			}
			same(t, h, m, "they wait")
		}
	}
}

func TestOfWhatIsNoOtherMemberNothingHappens(t *testing.T) {
	for _, me := range whose {
		for _, members := range circles {
			h, m := both(t, "some", me, members)
			for _, p := range m.others() {
				do(t, h, m, came(p, 2, 7), "some")
				do(t, h, m, vow(p, uint64(9+p), 3), "some")
				do(t, h, m, reached(p, 5), "some")
			}
			was := state(h)
			for _, p := range append(processes(), me) {
				if m.other(p) {
					continue
				}
				for _, s := range []uint64{0, 1, 6, 8, 1000, math.MaxUint64} {
					for _, n := range []uint32{0, 2, 3, math.MaxUint32} {
						tell(h, came(p, n, s))
						tell(h, vow(p, s, n))
						tell(h, reached(p, s))
					}
				}
				unchanged(t, h, was, fmt.Sprintf("me %d, members %x: by what was told of %d", me, members, p))
			}
			same(t, h, m, "some")
		}
	}
}

// step: a call, and the clock, the horizon and the safe mark behind it.
type step struct {
	c                call
	clock, all, safe uint64
}

const last = math.MaxUint32

var rows = []struct {
	what    string
	me      int
	members set.Set
	row     []step
}{
	{"it waits for one message", 1, 3, []step{{vow(0, 5, 1), 5, 0, 0}, {came(0, 1, 2), 5, 5, 0}, {reached(0, 9), 5, 5, 5}}},
	{"it waits for many", 1, 3, []step{{vow(0, 9, 3), 9, 0, 0}, {came(0, 1, 1), 9, 1, 0}, {came(0, 2, 3), 9, 3, 0}, {came(0, 3, 4), 9, 9, 0}, {came(0, 4, 10), 10, 10, 0}}},
	{"it waits for many, of which the last one comes at once", 1, 3, []step{{vow(0, 9, 30), 9, 0, 0}, {came(0, 29, 5), 9, 5, 0}, {came(0, 64, 6), 9, 9, 0}}},
	{"several wait for one number, rising", 1, 3, []step{{vow(0, 5, 2), 5, 0, 0}, {vow(0, 6, 2), 6, 0, 0}, {vow(0, 8, 2), 8, 0, 0}, {came(0, 1, 1), 8, 1, 0}, {came(0, 2, 3), 8, 8, 0}}},
	{"several wait for one number, falling", 1, 3, []step{{vow(0, 8, 2), 8, 0, 0}, {vow(0, 6, 2), 8, 0, 0}, {vow(0, 5, 2), 8, 0, 0}, {came(0, 1, 1), 8, 1, 0}, {came(0, 2, 3), 8, 8, 0}}},
	{"several wait for one number, the greatest one between", 1, 3, []step{{vow(0, 5, 2), 5, 0, 0}, {vow(0, 8, 2), 8, 0, 0}, {vow(0, 6, 2), 8, 0, 0}, {vow(0, 8, 2), 8, 0, 0}, {came(0, 2, 3), 8, 8, 0}}},
	{"several wait for different ones, rising", 1, 3, []step{{vow(0, 5, 1), 5, 0, 0}, {vow(0, 7, 2), 7, 0, 0}, {vow(0, 9, 3), 9, 0, 0}, {came(0, 1, 2), 9, 5, 0}, {came(0, 2, 6), 9, 7, 0}, {came(0, 3, 8), 9, 9, 0}}},
	{"several wait for different ones, falling", 1, 3, []step{{vow(0, 9, 3), 9, 0, 0}, {vow(0, 7, 2), 9, 0, 0}, {vow(0, 5, 1), 9, 0, 0}, {came(0, 1, 2), 9, 5, 0}, {came(0, 2, 6), 9, 7, 0}, {came(0, 3, 8), 9, 9, 0}}},
	{"several count at once by one message", 1, 3, []step{{vow(0, 5, 1), 5, 0, 0}, {vow(0, 9, 3), 9, 0, 0}, {vow(0, 7, 2), 9, 0, 0}, {vow(0, 12, 4), 12, 0, 0}, {came(0, 3, 4), 12, 9, 0}, {came(0, 4, 10), 12, 12, 0}}},
	{"a lesser stamp behind a greater one, for more", 1, 3, []step{{vow(0, 9, 1), 9, 0, 0}, {vow(0, 4, 2), 9, 0, 0}, {came(0, 1, 1), 9, 9, 0}, {came(0, 2, 2), 9, 9, 0}}},
	{"a lesser stamp behind a greater one, for less", 1, 3, []step{{vow(0, 9, 2), 9, 0, 0}, {vow(0, 4, 1), 9, 0, 0}, {came(0, 1, 1), 9, 4, 0}, {came(0, 2, 2), 9, 9, 0}}},
	{"a greater stamp, for less", 1, 3, []step{{vow(0, 4, 2), 4, 0, 0}, {vow(0, 9, 1), 9, 0, 0}, {came(0, 1, 1), 9, 9, 0}, {came(0, 2, 2), 9, 9, 0}}},
	{"they count at once", 1, 3, []step{{came(0, 2, 3), 3, 3, 0}, {vow(0, 6, 2), 6, 6, 0}, {vow(0, 8, 1), 8, 8, 0}, {vow(0, 7, 0), 8, 8, 0}, {vow(0, 9, 3), 9, 8, 0}, {vow(0, 9, 2), 9, 9, 0}}},
	{"one counts at once, while another one waits", 1, 3, []step{{vow(0, 20, 5), 20, 0, 0}, {came(0, 2, 3), 20, 3, 0}, {vow(0, 6, 2), 20, 6, 0}, {vow(0, 30, 3), 30, 6, 0}, {vow(0, 25, 0), 30, 25, 0}, {came(0, 3, 4), 30, 30, 0}, {came(0, 5, 6), 30, 30, 0}}},
	{"what waits says less than is heard when it counts", 1, 3, []step{{vow(0, 5, 2), 5, 0, 0}, {came(0, 1, 8), 8, 8, 0}, {came(0, 2, 4), 8, 8, 0}}},
	{"what is heard is more than what will wait", 1, 3, []step{{came(0, 1, 8), 8, 8, 0}, {vow(0, 5, 2), 8, 8, 0}, {vow(0, 8, 2), 8, 8, 0}, {vow(0, 9, 2), 9, 8, 0}, {came(0, 2, 6), 9, 9, 0}}},
	{"a lesser number is told behind a greater one", 1, 3, []step{{came(0, 5, 3), 3, 3, 0}, {came(0, 2, 4), 4, 4, 0}, {vow(0, 9, 3), 9, 4, 0}, {vow(0, 7, 2), 9, 7, 0}, {came(0, 3, 1), 9, 9, 0}}},
	{"a lesser number takes nothing back", 1, 3, []step{{vow(0, 9, 3), 9, 0, 0}, {vow(0, 11, 4), 11, 0, 0}, {came(0, 3, 2), 11, 9, 0}, {came(0, 1, 5), 11, 9, 0}, {came(0, 0, 6), 11, 9, 0}, {came(0, 4, 7), 11, 11, 0}}},
	{"a lesser number, and what waits stays waiting", 1, 3, []step{{came(0, 2, 2), 2, 2, 0}, {vow(0, 9, 3), 9, 2, 0}, {came(0, 1, 3), 9, 3, 0}, {came(0, 2, 4), 9, 4, 0}, {came(0, 3, 5), 9, 9, 0}}},
	{"the number 0", 1, 3, []step{{vow(0, 4, 0), 4, 4, 0}, {came(0, 0, 6), 6, 6, 0}, {vow(0, 8, 1), 8, 6, 0}, {came(0, 0, 7), 8, 7, 0}, {vow(0, 9, 0), 9, 9, 0}, {came(0, 1, 1), 9, 9, 0}}},
	{"the greatest number", 1, 3, []step{{vow(0, 9, last), 9, 0, 0}, {came(0, last-1, 3), 9, 3, 0}, {vow(0, 5, last-1), 9, 5, 0}, {came(0, last, 4), 9, 9, 0}, {vow(0, 12, last), 12, 12, 0}, {came(0, 0, 1), 12, 12, 0}, {vow(0, 14, 1), 14, 12, 0}}},
	{"the greatest stamp", 1, 3, []step{{vow(0, math.MaxUint64, 1), math.MaxUint64, 0, 0}, {stamp(), math.MaxUint64, 0, 0}, {reached(0, math.MaxUint64), math.MaxUint64, 0, 0}, {came(0, 1, math.MaxUint64-1), math.MaxUint64, math.MaxUint64, math.MaxUint64}}},
	{"one's promise isn't another one's", 1, 7, []step{{vow(0, 9, 1), 9, 0, 0}, {came(2, 1, 5), 9, 0, 0}, {vow(2, 12, 1), 12, 0, 0}, {came(0, 1, 2), 12, 9, 0}, {came(0, 2, 15), 15, 12, 0}}},
	{"both wait for one number", 1, 7, []step{{vow(0, 9, 2), 9, 0, 0}, {vow(2, 7, 2), 9, 0, 0}, {came(0, 2, 3), 9, 0, 0}, {came(2, 1, 4), 9, 4, 0}, {came(2, 2, 5), 9, 7, 0}}},
	{"a greater promise of one leaves the other one's waiting", 1, 7, []step{{vow(2, 7, 2), 7, 0, 0}, {vow(0, 9, 1), 9, 0, 0}, {came(0, 1, 9), 9, 0, 0}, {came(2, 2, 1), 9, 7, 0}}},
	{"reached ahead of being heard", 1, 3, []step{{reached(0, 20), 0, 0, 0}, {came(0, 1, 4), 4, 4, 4}, {see(40), 40, 4, 4}, {vow(0, 30, 1), 40, 30, 20}, {reached(0, 29), 40, 30, 29}, {reached(0, 31), 40, 30, 30}}},
	{"stamps between what others say", 0, 7, []step{{stamp(), 1, 0, 0}, {came(1, 1, 1), 1, 0, 0}, {stamp(), 2, 0, 0}, {came(2, 1, 5), 5, 1, 0}, {stamp(), 6, 1, 0}, {vow(1, 6, 2), 6, 1, 0}, {came(1, 2, 6), 6, 5, 0}, {reached(1, 5), 6, 5, 0}, {reached(2, 3), 6, 5, 3}, {see(9), 9, 5, 3}, {vow(2, 8, 1), 9, 6, 3}, {reached(2, 9), 9, 6, 5}, {stamp(), 10, 6, 5}}},
	{"nobody else", 1, 2, []step{{stamp(), 1, 1, 1}, {see(7), 7, 7, 7}, {came(1, 1, 9), 7, 7, 7}, {vow(0, 9, 0), 7, 7, 7}, {reached(1, 1), 7, 7, 7}, {stamp(), 8, 8, 8}}},
	{"nobody at all", 5, 0, []step{{see(3), 3, 3, 3}, {stamp(), 4, 4, 4}, {came(5, 1, 9), 4, 4, 4}, {reached(0, 1), 4, 4, 4}}},
}

func TestRows(t *testing.T) {
	for _, x := range rows {
		h := New(x.me, x.members)
		var l []call
		for i, p := range x.row {
			tell(h, p.c)
			if h.Clock() != p.clock || h.All() != p.all || h.Safe() != p.safe {
				t.Fatalf("%s: behind the call %d, %+v: %d, %d, %d, want %d, %d, %d", x.what, i, p.c, h.Clock(), h.All(), h.Safe(), p.clock, p.all, p.safe)
			}
			l = append(l, p.c)
		}
		both(t, x.what, x.me, x.members, l...)
	}
}

// All orders of some promises, and then one message after the other.
func TestPromisesInAllOrders(t *testing.T) {
	vows := []call{vow(2, 10, 1), vow(2, 30, 2), vow(2, 20, 2), vow(2, 25, 3), vow(2, 40, 4)}
	var orders func(done, left []call)
	orders = func(done, left []call) {
		if len(left) > 0 {
			for i := range left {
				orders(append(slices.Clone(done), left[i]), slices.Delete(slices.Clone(left), i, i+1))
			}
			return
		}
		for ahead := range len(done) + 1 { // so many ahead of the second message
			h, m := New(0, bits(0, 2)), &told{me: 0, members: bits(0, 2)}
			for _, c := range joined(done[:ahead], []call{came(2, 2, 5)}, done[ahead:], []call{came(2, 3, 6), came(2, 4, 7)}) {
				do(t, h, m, c, "orders")
				if h.Clock() != m.clock() || h.All() != m.all() {
					t.Fatalf("%+v: %d, %d", *m, h.Clock(), h.All())
				}
			}
			if h.All() != 40 {
				t.Fatalf("%+v: at the end %d", *m, h.All())
			}
		}
	}
	orders(nil, vows)
}

// Me that is no process, or no member, has all members as the others.
func TestMeAmongTheMembersOrNot(t *testing.T) {
	calls := joined(ofThree(func(p int) call { return came(p, 1, uint64(4+p)) }), ofThree(func(p int) call { return reached(p, uint64(70-p)) }), ofThree(func(p int) call { return vow(p, uint64(80+p), 2) }), []call{stamp()}, ofThree(func(p int) call { return came(p, 2, 9) }))
	for _, me := range []int{-1, 0, 1, 63, 64} {
		both(t, "a member", me, bits(0, 2, 63).With(me), calls...)
		both(t, "no member", me, bits(0, 2, 63).Less(me), calls...)
		if me >= 0 && me <= 63 {
			h, _ := both(t, "with me", me, bits(0, 2, 63).With(me), calls...)
			c, _ := both(t, "without me", me, bits(0, 2, 63).Less(me), calls...)
			if !reflect.DeepEqual(state(h), state(c)) {
				t.Errorf("me %d: with and without me among the members they differ", me)
			}
		}
	}
}

// P13.3: All, Safe, Copy.

// Each of the others alone may be the one that holds the horizon up.
func TestTheOneThatWasHeardLeast(t *testing.T) {
	for _, members := range circles {
		for p := range 64 {
			h, m := New(1, members), &told{me: 1, members: members}
			if !m.other(p) {
				continue
			}
			for _, q := range m.others() {
				tell(h, came(q, 1, 9))
				tell(h, reached(q, 8))
			}
			if h.All() != 9 || h.Safe() != 8 {
				t.Errorf("members %x: %d, %d", members, h.All(), h.Safe())
			}
			c := h.Copy()
			for _, q := range m.others() {
				if q != p {
					tell(h, came(q, 2, 20))
					tell(h, reached(q, 15))
					tell(c, reached(q, 15))
				}
			}
			if h.All() != 9 || h.Safe() != 8 || c.All() != 9 || c.Safe() != 8 {
				t.Errorf("members %x: all but %d go on: %d, %d, %d, %d", members, p, h.All(), h.Safe(), c.All(), c.Safe())
			}
			tell(h, came(p, 2, 19))
			tell(h, reached(p, 14))
			tell(c, reached(p, 14))
			if h.All() != 19 || h.Safe() != 14 || c.All() != 9 || c.Safe() != 9 {
				t.Errorf("members %x: %d goes on: %d, %d, %d, %d", members, p, h.All(), h.Safe(), c.All(), c.Safe())
			}
		}
	}
}

func TestAllSixtyFourMembers(t *testing.T) {
	for me := range 64 {
		h, m := New(me, math.MaxUint64), &told{me: me, members: math.MaxUint64}
		for p := range 64 {
			if p != me && (h.All() != 0 || h.Safe() != 0) {
				t.Fatalf("me %d: ahead of %d: %d, %d", me, p, h.All(), h.Safe())
			}
			do(t, h, m, vow(p, uint64(200-p), uint32(p)), "all") // each another number and stamp; me plays no part
			do(t, h, m, came(p, uint32(p), uint64(70+p)), "all")
			do(t, h, m, reached(p, uint64(90+(p*7)%64)), "all")
		}
		same(t, h, m, "all")
		clock, all, safe := uint64(200), uint64(200-63), uint64(90)
		switch me {
		case 0:
			clock, safe = 199, 91
		case 63:
			all = 200 - 62
		}
		if h.Clock() != clock || h.All() != all || h.Safe() != safe {
			t.Errorf("me %d: %d, %d, %d, want %d, %d, %d", me, h.Clock(), h.All(), h.Safe(), clock, all, safe)
		}
	}
}

// beginnings: what was told of that which is copied.
var beginnings = [][]call{
	nil,
	{stamp(), see(6)},
	{came(0, 1, 4), reached(0, 3), came(2, 1, 5), reached(2, 9)},
	{vow(0, 9, 2), vow(0, 12, 3), vow(2, 7, 1), came(63, 1, 8)},
	{came(0, 3, 4), came(0, 1, 5), vow(0, 9, 2), vow(63, 20, 1), vow(63, 30, 2), vow(63, 40, 3), reached(63, 7)},
	{vow(0, 9, 1), vow(2, 9, 1), vow(63, 9, 1), vow(0, 11, 2), vow(2, 11, 2), vow(63, 11, 2), came(2, 1, 3)},
}

func TestCopiesGoTheirOwnWays(t *testing.T) {
	one := []call{came(0, 2, 6), vow(2, 30, 2), came(63, 2, 10), stamp(), vow(0, 50, 9), reached(0, 20), came(2, 1, 7), vow(63, 60, 3)}
	other := []call{vow(63, 33, 5), came(2, 2, 8), vow(0, 44, 3), reached(2, 25), see(70), came(0, 3, 9), came(63, 5, 2), reached(63, 26)}
	for _, members := range circles {
		for i, row := range beginnings {
			what := fmt.Sprint("the beginning ", i)
			h, m := both(t, what, 1, members, row...)
			c, mc := h.Copy(), m.copy()
			same(t, c, mc, what+": a copy")
			for k := range one {
				do(t, h, m, one[k], what)
				same(t, c, mc, what+": a copy, while the other one went on")
				do(t, c, mc, other[k], what)
				same(t, h, m, what+": what was copied, while the copy went on")
			}
			d, md := c.Copy(), mc.copy()
			for _, y := range ofThree(func(p int) call { return came(p, last, 90) }) {
				do(t, c, mc, y, what)
			}
			same(t, d, md, what+": a copy of a copy")
			same(t, c, mc, what+": a copy")
			same(t, h, m, what+": what was copied")
		}
	}
}

// Of both what waits may be the first to count, or to be joined by more.
func TestWaitingPromisesAreCopiedToo(t *testing.T) {
	for _, copyFirst := range []bool{false, true} {
		for n := range 20 { // so many wait, in slices of more room or less
			h, m := New(0, bits(0, 1, 2)), &told{me: 0, members: bits(0, 1, 2)}
			for i := range n {
				do(t, h, m, vow(1+i%2, uint64(10+i), uint32(1+i/2)), "waiting")
			}
			a, ma, b, mb := h, m, h.Copy(), m.copy()
			if copyFirst {
				a, ma, b, mb = b, mb, a, ma
			}
			do(t, a, ma, vow(1, 100, 50), "the first one")
			do(t, b, mb, vow(2, 200, 50), "the second one")
			for k := range uint32(n) {
				do(t, a, ma, came(1, k+1, 1), "the first one")
				same(t, b, mb, "the second one")
				do(t, b, mb, came(2, k+1, 1), "the second one")
				same(t, a, ma, "the first one")
			}
			for _, p := range []int{1, 2} {
				do(t, a, ma, came(p, 50, 1), "the first one")
				do(t, b, mb, came(p, 50, 1), "the second one")
			}
			same(t, a, ma, "the first one")
			same(t, b, mb, "the second one")
		}
	}
}

func TestACopySharesNoMemory(t *testing.T) {
	for _, copyFirst := range []bool{false, true} {
		h, m := both(t, "memory", 1, bits(0, 1, 2), vow(0, 9, 2), vow(0, 12, 3), vow(2, 7, 1), came(2, 1, 3), reached(0, 5))
		a, b := h, h.Copy()
		if copyFirst {
			a, b = b, a
		}
		for i := range a.waiting[:cap(a.waiting)] {
			a.waiting[:cap(a.waiting)][i] = promise{from: 0, stamp: 4000}
		}
		a.marks[0], a.clock = mark{heard: 3000, reached: 2000, came: 9}, 5000
		same(t, b, m, "memory")
		do(t, b, m, came(0, 3, 4), "memory")
		same(t, b, m, "memory")
	}
}

func TestHorizonsAreOfTheirOwn(t *testing.T) {
	h, m := both(t, "a horizon", 0, bits(0, 1), vow(1, 5, 1), stamp())
	other, mo := both(t, "another one", 0, bits(0, 1), vow(1, 9, 1), came(1, 1, 3), reached(1, 4))
	do(t, h, m, came(1, 1, 2), "a horizon")
	same(t, other, mo, "the other one")
	do(t, other, mo, came(1, 2, 12), "the other one")
	same(t, h, m, "a horizon")
}

// P13.4: no mark ever falls; the safe mark is never above the horizon, nor that above the clock; with nobody else both are the clock. (Each do in this file is held against it, too.)

// All rows of a menu, each on a copy, of which what was copied knows nothing.
func TestAllRowsOfAMenu(t *testing.T) {
	some := []call{stamp(), see(7), came(0, 1, 3), came(0, 2, 5), vow(0, 6, 1), vow(0, 4, 2), vow(0, 9, 2), reached(0, 4), came(2, 1, 8), vow(2, 8, 0), reached(2, 6), came(1, 9, 99), vow(5, 99, 0)}
	promises := []call{came(0, 0, 1), came(0, 1, 2), came(0, 2, 4), came(0, 1, 9), vow(0, 3, 1), vow(0, 6, 1), vow(0, 5, 2), vow(0, 8, 2), vow(0, 7, 3)}
	var walk func(h *Horizon, m *told, menu []call, deep int)
	walk = func(h *Horizon, m *told, menu []call, deep int) {
		same(t, h, m, "a row")
		if deep == 0 {
			return
		}
		was := state(h)
		for _, c := range menu {
			v, n := h.Copy(), m.copy()
			do(t, v, n, c, "a row")
			walk(v, n, menu, deep-1)
		}
		unchanged(t, h, was, "by a copy's calls")
	}
	for _, x := range []struct {
		me      int
		members set.Set
		menu    []call
		deep    int
		row     []call
	}{
		{1, 7, some, 4, nil},
		{1, 7, some, 3, []call{came(0, 1, 2), came(2, 1, 3), vow(0, 10, 3), reached(0, 1)}},
		{64, 7, some, 3, nil},
		{1, 2, some, 3, nil},
		{1, math.MaxUint64, some, 2, nil},
		{1, 3, promises, 5, nil},
		{1, 3, promises, 4, []call{vow(0, 4, 3), came(0, 2, 1), vow(0, 12, 4)}},
	} {
		h, m := both(t, "rows", x.me, x.members, x.row...)
		walk(h, m, x.menu, x.deep)
	}
}

// Rows that look like chance, of all members and stamps.
func TestRowsThatLookLikeChance(t *testing.T) {
	for seed := range 60 {
		d := turned(seed)
		me, members := whose[d.below(len(whose))], circles[seed%len(circles)]
		if d.below(3) == 0 { // few members, of whom much is told
			me, members = d.below(4), set.Set(d.below(16))
		}
		h, m := both(t, "chance", me, members)
		who := append(m.others(), m.others()...)
		who = append(who, me, -1, 64, 5)
		for k := range 160 {
			p := who[d.below(len(who))]
			n, s := uint32(k/len(who)+d.below(5)), uint64(k+d.below(20))
			c := []call{stamp(), see(s), came(p, n, s), came(p, n, s), vow(p, s, n), vow(p, s, n+2), vow(p, s+5, n), reached(p, s)}[d.below(8)]
			if d.below(40) == 0 {
				c.stamp = stamps(h.All())[d.below(8)]
			}
			do(t, h, m, c, "chance")
			lean(t, h, m)
			if k%5 == 0 {
				same(t, h, m, "chance")
			}
		}
		same(t, h.Copy(), m, "chance, copied")
	}
}

// lean: whether nothing waits that came already, or can move no mark any more: of one member's, a greater stamp waits for more.
func lean(t *testing.T, h *Horizon, m *told) {
	t.Helper()
	for i, w := range h.waiting {
		if w.stamp <= m.heard(w.from) || w.sent == 0 {
			t.Fatalf("%+v: %+v waits, and can't move the mark %d", *m, w, m.heard(w.from))
		}
		for k, v := range h.waiting {
			if i != k && w.from == v.from && w.stamp <= v.stamp && w.sent >= v.sent {
				t.Fatalf("%+v: %+v waits, and %+v, too", *m, w, v)
			}
		}
	}
}

// While a message lacks, each acknowledgement is a promise for no less than it; what waits doesn't grow with their number.
func TestWhatWaitsIsBounded(t *testing.T) {
	h := New(0, math.MaxUint64)
	for k := range uint64(20000) {
		p := 1 + int(k%63)
		h.Promise(p, 1000+k, 1+uint32(k/1000))
		h.Promise(p, k, 30)
		if len(h.waiting) > 63*20 || cap(h.waiting) > 4*63*20 {
			t.Fatalf("behind %d promises %d wait, in room for %d", 2*k, len(h.waiting), cap(h.waiting))
		}
	}
	for p := 1; p < 64; p++ {
		h.Came(p, 30, 1)
	}
	if len(h.waiting) != 0 || h.All() != 1000+20000-63 {
		t.Errorf("at the end %d wait, All() = %d", len(h.waiting), h.All())
	}
}

// ack: what a member tells the others: its clock, how many it sent, its horizon.
type ack struct {
	from    int
	clock   uint64
	sent    uint32
	horizon uint64
}

// circle: members that send, acknowledge and take between each other; a sender's messages are taken in their order.
type circle struct {
	h    []*Horizon
	sent [][]uint64 // each one's messages' stamps
	took [][]int    // how many each one took of each
	acks []ack
}

func newCircle(n int) *circle {
	c := &circle{sent: make([][]uint64, n)}
	for p := range n {
		c.h = append(c.h, New(p, set.All(n)))
		c.took = append(c.took, make([]int, n))
	}
	return c
}

// take: p takes q's next message. It comes above all that p thought to be heard.
func (c *circle) take(t *testing.T, p, q int) {
	t.Helper()
	if p == q || c.took[p][q] == len(c.sent[q]) {
		return
	}
	s := c.sent[q][c.took[p][q]]
	if s <= c.h[p].All() {
		t.Fatalf("%d heard all up to %d, and %d's message of the stamp %d comes", p, c.h[p].All(), q, s)
	}
	c.took[p][q]++
	c.h[p].Came(q, uint32(c.took[p][q]), s)
}

// tell: p acknowledges what it took.
func (c *circle) tell(p int) ack {
	return ack{from: p, clock: c.h[p].Clock(), sent: uint32(len(c.sent[p])), horizon: c.h[p].All()}
}

// hear: p is told what another one acknowledged.
func (c *circle) hear(p int, a ack) {
	c.h[p].Promise(a.from, a.clock, a.sent)
	c.h[p].Reached(a.from, a.horizon)
}

// settled: everybody takes all, and tells all what it took, as often as it needs.
func (c *circle) settled(t *testing.T) {
	t.Helper()
	for range 3 { // the clocks come to one, then the horizons, then the safe marks
		for p := range c.h {
			for q := range c.h {
				for range c.sent[q] {
					c.take(t, p, q)
				}
			}
		}
		for p := range c.h {
			a := c.tell(p)
			for q := range c.h {
				c.hear(q, a)
			}
		}
	}
}

// What is thought to be heard by all is, whatever comes late, twice or not at all; and at the end all is.
func TestMembersThatHearLate(t *testing.T) {
	for seed := range 40 {
		d, n := turned(700+seed), 2+seed%5
		c := newCircle(n)
		for range 600 {
			p, q := d.below(n), d.below(n)
			switch d.below(5) {
			case 0:
				c.sent[p] = append(c.sent[p], c.h[p].Stamp())
			case 1, 2:
				c.take(t, p, q)
			case 3:
				c.acks = append(c.acks, c.tell(p))
			case 4:
				if len(c.acks) > 0 {
					c.hear(p, c.acks[max(0, len(c.acks)-1-d.below(30))])
				}
			}
			for r, h := range c.h {
				for _, x := range c.h {
					if h.Safe() > x.All() || h.All() > x.Clock() {
						t.Fatalf("seed %d: %d has %d, %d, %d, another one %d, %d", seed, r, h.Clock(), h.All(), h.Safe(), x.Clock(), x.All())
					}
				}
			}
		}
		c.settled(t)
		for p, h := range c.h {
			if top := c.h[0].Clock(); h.Clock() != top || h.All() != top || h.Safe() != top || len(h.waiting) != 0 {
				t.Errorf("seed %d: at the end %d has %d, %d, %d, want %d", seed, p, h.Clock(), h.All(), h.Safe(), top)
			}
		}
	}
}
