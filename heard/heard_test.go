package heard

import (
	"fmt"
	"math"
	"slices"
	"testing"

	"consort/api"
	"consort/set"
)

// The kinds of calls that tell an ear something.
const (
	tick = iota
	hear
	beat
	forget
)

// call: one of these; a hearing has p, a beat p and b, a forgetting s.
type call struct {
	kind int
	p    int
	b    Beat
	s    uint64
}

func ticks(n int) []call            { return slices.Repeat([]call{{kind: tick}}, n) }
func hears(p int) call              { return call{kind: hear, p: p} }
func beats(p int, b Beat) call      { return call{kind: beat, p: p, b: b} }
func forgets(s ...int) call         { return call{kind: forget, s: bits(s...)} }
func joined(l ...[]call) []call     { return slices.Concat(l...) }
func conf(e uint64, r int) api.Conf { return api.Conf{Epoch: e, Rep: r} }

// bits: the set of these, as a number.
func bits(l ...int) uint64 {
	var s uint64
	for _, p := range l {
		s |= 1 << p
	}
	return s
}

// has: is p, which is a process, of s?
func has(s uint64, p int) bool { return s>>p&1 == 1 }

// told: an ear as the chapter's words have it. It keeps all calls, and works out each answer anew from them.
type told struct {
	me, n, timeout int
	row            []call
}

// takes: does p play a part?
func (m *told) takes(p int) bool { return p != m.me && p >= 0 && p < m.n && p <= 63 }

func (m *told) reach() uint64 {
	var s uint64
	for p := range 64 {
		if ago, ok := m.ago(p); p == m.me || ok && ago <= m.timeout {
			s |= 1 << p
		}
	}
	return s
}

// ago: how many ticks ago p was heard of; false, if it never was.
func (m *told) ago(p int) (int, bool) {
	n := 0
	for _, c := range slices.Backward(m.row) {
		switch {
		case c.kind == tick:
			n++
		case (c.kind == hear || c.kind == beat) && c.p == p && m.takes(p):
			return n, true
		}
	}
	return 0, false
}

// of: p's last beat; false, if there is none.
func (m *told) of(p int) (Beat, bool) {
	for _, c := range slices.Backward(m.row) {
		switch {
		case !m.takes(p), c.kind == forget && has(c.s, p):
			return Beat{}, false
		case c.kind == beat && c.p == p:
			return c.b, true
		}
	}
	return Beat{}, false
}

// last: all last beats.
func (m *told) last() map[int]Beat {
	out := map[int]Beat{}
	for p := range 64 {
		if b, ok := m.of(p); ok {
			out[p] = b
		}
	}
	return out
}

// epoch: of these last beats.
func epoch(last map[int]Beat) uint64 {
	var most uint64
	for _, b := range last {
		most = max(most, b.Epoch, b.Conf.Epoch, b.Prom.Epoch)
	}
	return most
}

// strange: of these last beats.
func strange(last map[int]Beat, q question) uint64 {
	var out uint64
	for p, b := range last {
		if has(q.s, p) && (b.Prom.Epoch != q.c.Epoch || b.Prom.Rep != q.c.Rep) {
			out |= 1 << p
		}
	}
	return out
}

// question: what Strange is asked.
type question struct {
	s uint64
	c api.Conf
}

// questions: of the configurations that were told of, and some beside them, and of some sets.
func (m *told) questions() []question {
	l := []api.Conf{{}, conf(1, 0), conf(0, 1)}
	for _, c := range m.row {
		if c.kind == beat && !slices.Contains(l, c.b.Prom) {
			l = append(l, c.b.Prom)
		}
	}
	var out []question
	for _, c := range l[:min(len(l), 9)] {
		for _, s := range []uint64{0, math.MaxUint64, 1, 2, 5, 1 << 63, 0xaaaaaaaaaaaaaaaa} {
			out = append(out, question{s, c})
		}
	}
	return out
}

// do: the call is made on both.
func do(e *Ear, m *told, c call) {
	m.row = append(m.row, c)
	switch c.kind {
	case tick:
		e.Tick()
	case hear:
		e.Hear(c.p)
	case beat:
		e.Beat(c.p, c.b)
	case forget:
		e.Forget(set.Set(c.s))
	}
}

// both: an ear and what it was told: these calls.
func both(me, n, timeout int, row ...call) (*Ear, *told) {
	e, m := New(me, n, timeout), &told{me: me, n: n, timeout: timeout}
	for _, c := range row {
		do(e, m, c)
	}
	return e, m
}

// odd: numbers that are no process.
var odd = []int{math.MinInt, math.MinInt + 1, -1 << 32, -64, -63, -2, -1, 64, 65, 66, 127, 128, 1 << 32, 1<<32 + 1, math.MaxInt - 1, math.MaxInt}

// processes: all of them, and numbers that are none.
func processes() []int {
	out := slices.Clone(odd)
	for p := range 64 {
		out = append(out, p)
	}
	return out
}

// same: whether e answers as m does, and again, since an answer leaves the ear as it is.
func same(t *testing.T, e *Ear, m *told, what string) {
	t.Helper()
	before := *e
	reach, last, questions := m.reach(), m.last(), m.questions()
	for range 2 {
		if got := uint64(e.Reach()); got != reach {
			t.Fatalf("%s: %+v: Reach() = %b, want %b", what, *m, got, reach)
		}
		if got, want := e.Epoch(), epoch(last); got != want {
			t.Fatalf("%s: %+v: Epoch() = %d, want %d", what, *m, got, want)
		}
		for _, p := range processes() {
			b, ok := last[p]
			if gotB, gotOK := e.Of(p); gotB != b || gotOK != ok {
				t.Fatalf("%s: %+v: Of(%d) = %v, %v, want %v, %v", what, *m, p, gotB, gotOK, b, ok)
			}
		}
		for _, q := range questions {
			if got, want := uint64(e.Strange(set.Set(q.s), q.c)), strange(last, q); got != want {
				t.Fatalf("%s: %+v: Strange(%b, %v) = %b, want %b", what, *m, q.s, q.c, got, want)
			}
		}
	}
	if *e != before {
		t.Fatalf("%s: %+v: an answer changed the ear", what, *m)
	}
}

// held: each answer behind each call of the row.
func held(t *testing.T, what string, me, n, timeout int, row ...call) {
	t.Helper()
	e, m := both(me, n, timeout)
	same(t, e, m, what+", at the beginning")
	for i, c := range row {
		do(e, m, c)
		same(t, e, m, fmt.Sprint(what, ", behind the call ", i))
	}
}

// some: a beat whose fields differ, and from those of other numbers.
func some(k int) Beat {
	return Beat{Conf: conf(uint64(10*k+1), k%64), Prom: conf(uint64(10*k+3), (k+1)%64), Epoch: uint64(10*k + 2)}
}

// turned: numbers that look like chance, the same ones each time.
type turned uint64

func (d *turned) below(n int) int {
	*d = *d*6364136223846793005 + 1442695040888963407
	return int(uint64(*d) >> 33 % uint64(n))
}

// some: a set of about a quarter of all processes.
func (d *turned) some() uint64 {
	var s uint64
	for p := range 64 {
		if d.below(4) == 0 {
			s |= 1 << p
		}
	}
	return s
}

// P9.1: New, Tick, Hear, Beat, Forget.

func TestANewEarHeardNothing(t *testing.T) {
	e := New(1, 3, 5)
	if r := e.Reach(); r != set.Of(1) {
		t.Errorf("Reach() = %v", r.List())
	}
	if n := e.Epoch(); n != 0 {
		t.Errorf("Epoch() = %d", n)
	}
	if s := e.Strange(set.All(64), conf(9, 9)); s != 0 {
		t.Errorf("Strange = %v", s.List())
	}
	for _, p := range processes() {
		if b, ok := e.Of(p); b != (Beat{}) || ok {
			t.Errorf("Of(%d) = %v, %v", p, b, ok)
		}
	}
}

func TestHearBeatAndForgetOfOne(t *testing.T) {
	e := New(0, 3, 2)
	e.Hear(2)
	if b, ok := e.Of(2); b != (Beat{}) || ok || e.Reach() != set.Of(0, 2) {
		t.Errorf("heard of: %v, %v, %v", b, ok, e.Reach().List())
	}
	e.Beat(1, some(1))
	if b, ok := e.Of(1); b != some(1) || !ok || e.Reach() != set.All(3) {
		t.Errorf("a beat: %v, %v, %v", b, ok, e.Reach().List())
	}
	e.Beat(1, Beat{})
	if b, ok := e.Of(1); b != (Beat{}) || !ok {
		t.Errorf("a zero beat behind it: %v, %v", b, ok)
	}
	e.Beat(1, some(2))
	e.Hear(1)
	if b, ok := e.Of(1); b != some(2) || !ok {
		t.Errorf("heard of behind a beat: %v, %v", b, ok)
	}
	e.Forget(set.Of(1))
	if b, ok := e.Of(1); b != (Beat{}) || ok || e.Reach() != set.All(3) {
		t.Errorf("forgotten: %v, %v, %v", b, ok, e.Reach().List())
	}
	e.Beat(1, some(3))
	if b, ok := e.Of(1); b != some(3) || !ok {
		t.Errorf("a beat behind it: %v, %v", b, ok)
	}
}

// sizes: numbers of processes, and of one that has the ear, at their edges and beyond them.
func sizes() (ns, mes []int) {
	ns = []int{math.MinInt, -65, -64, -1, 0, 1, 2, 3, 62, 63, 64, 65, 66, 128, 1 << 32, math.MaxInt}
	return ns, append([]int{0, 1, 2, 61, 62, 63}, odd...)
}

func TestEarsOfAllSizesTakeWhoPlaysAPart(t *testing.T) {
	ns, mes := sizes()
	for _, n := range ns {
		for _, me := range mes {
			for _, p := range slices.Concat([]int{0, 1, me, n, 61, 62, 63}, []int{max(n, math.MinInt+1) - 1, min(n, math.MaxInt-1) + 1}, odd) {
				what := fmt.Sprintf("New(%d, %d, 1), process %d", me, n, p)
				e, m := both(me, n, 1, hears(p))
				if e.Reach() != set.Set(m.reach()) {
					t.Fatalf("%s: Reach() = %v", what, e.Reach().List())
				}
				e, m = both(me, n, 1, beats(p, some(1)))
				same(t, e, m, what)
				do(e, m, forgets(0, 1, 63))
				do(e, m, call{kind: tick})
				same(t, e, m, what)
			}
		}
	}
}

func TestWhoeverPlaysNoPartIsNeverHeardOf(t *testing.T) {
	for _, x := range []struct{ me, n, want int }{
		{0, 3, 3}, {1, 3, 3}, {2, 3, 3}, {0, 1, 1}, {0, 64, 64}, {63, 64, 64}, {0, 65, 64}, {63, 1000, 64}, {0, 0, 1}, {0, -1, 1}, {3, 3, 4}, {63, 3, 4}, {-1, 3, 3}, {64, 3, 3}, {-1, 0, 0}, {64, -1, 0}, {64, 65, 64},
	} {
		e := New(x.me, x.n, 0)
		for _, p := range processes() {
			e.Hear(p)
			e.Beat(p, some(4))
		}
		if got := e.Reach().Size(); got != x.want {
			t.Errorf("New(%d, %d, 0): %d are reached, want %d", x.me, x.n, got, x.want)
		}
		if _, ok := e.Of(x.me); ok {
			t.Errorf("New(%d, %d, 0): it has a beat of itself", x.me, x.n)
		}
	}
}

func TestABeatIsHeardOfNow(t *testing.T) {
	held(t, "beats keep it reached", 0, 2, 1, joined([]call{beats(1, some(1))}, ticks(1), []call{beats(1, some(2))}, ticks(1), []call{beats(1, some(1))}, ticks(3))...)
	held(t, "hearings keep it reached, its beat stays", 0, 2, 1, joined([]call{beats(1, some(1))}, ticks(1), []call{hears(1)}, ticks(2), []call{hears(1)}, ticks(3))...)
}

func TestForget(t *testing.T) {
	ahead := []call{beats(0, some(1)), {kind: tick}, beats(2, some(2)), hears(3), {kind: tick}, beats(63, some(3)), beats(2, some(4))}
	for _, s := range []uint64{0, math.MaxUint64, bits(1), bits(0), bits(2), bits(3), bits(4), bits(62), bits(63), bits(0, 63), bits(0, 2, 63), ^bits(2), ^bits(0)} {
		row := joined(ahead, []call{{kind: forget, s: s}, {kind: forget, s: s}, beats(2, some(5)), {kind: tick}, {kind: forget, s: bits(2)}, hears(2), {kind: tick}, beats(0, some(6))}, ticks(4))
		held(t, fmt.Sprintf("Forget(%b)", s), 1, 64, 2, row...)
	}
}

func TestForgetOfNewEarsAndOfWhatTheyDoNotHave(t *testing.T) {
	for _, n := range []int{-1, 0, 1, 3, 64, 65} {
		for _, me := range []int{-1, 0, n - 1, n, 63} {
			held(t, "Forget", me, n, 1, call{kind: forget, s: math.MaxUint64}, beats(1, some(1)), call{kind: forget}, call{kind: forget, s: ^bits(1)}, call{kind: forget, s: math.MaxUint64})
		}
	}
}

// P9.2: Reach.

func TestReachOfTheExample(t *testing.T) {
	e := New(0, 2, 2)
	for range 5 {
		e.Tick()
	}
	e.Hear(1)
	for at := 5; at <= 9; at++ {
		if got := e.Reach().Has(1); got != (at <= 7) {
			t.Errorf("at the tick %d: reached is %v", at, got)
		}
		e.Tick()
	}
}

func TestReachAtTheTimeout(t *testing.T) {
	for _, timeout := range []int{math.MinInt, math.MinInt + 1, -2, -1, 0, 1, 2, 3, 63, 64, 65, 255, 256, 1 << 31, math.MaxInt - 1, math.MaxInt} {
		for _, ahead := range []int{0, 1, 2, 64, 300} {
			e, m := both(0, 4, timeout, ticks(ahead)...)
			do(e, m, hears(1))
			do(e, m, beats(2, some(1)))
			for ago := range 300 {
				want := bits(0)
				if ago <= timeout {
					want = bits(0, 1, 2)
				}
				if got := uint64(e.Reach()); got != want {
					t.Fatalf("timeout %d, heard of at the tick %d, %d ticks ago: %b, want %b", timeout, ahead, ago, got, want)
				}
				do(e, m, call{kind: tick})
			}
			same(t, e, m, "300 ticks behind")
			do(e, m, hears(1))
			same(t, e, m, "heard of again")
		}
	}
}

func TestWhoeverWasNeverHeardOfIsNotReached(t *testing.T) {
	for _, timeout := range []int{-1, 0, 1, 5, 1 << 31, math.MaxInt} {
		e, m := both(2, 5, timeout, hears(4))
		for range 10 {
			if got, want := uint64(e.Reach()), m.reach(); got != want || has(got, 0) || has(got, 1) || has(got, 3) {
				t.Fatalf("timeout %d: %b, want %b", timeout, got, want)
			}
			do(e, m, call{kind: tick})
		}
	}
}

func TestReachOfWhoeverHasTheEar(t *testing.T) {
	ns, mes := sizes()
	for _, n := range ns {
		for _, me := range mes {
			for _, timeout := range []int{math.MinInt, -1, 0, math.MaxInt} {
				e := New(me, n, timeout)
				var want set.Set
				if me >= 0 && me <= 63 {
					want = set.Set(bits(me))
				}
				for range 3 {
					if got := e.Reach(); got != want {
						t.Errorf("New(%d, %d, %d): %v is reached", me, n, timeout, got.List())
					}
					e.Tick()
					e.Hear(me)
					e.Forget(set.Set(bits(0, 1, 62, 63)))
				}
			}
		}
	}
}

// P9.2: Epoch.

func TestEpochOfEachField(t *testing.T) {
	for _, x := range []struct {
		what string
		l    []Beat // of the processes 1, 2 ..
		want uint64
	}{
		{"no beats", nil, 0},
		{"a zero beat", []Beat{{}}, 0},
		{"the beat's own", []Beat{{conf(4, 9), conf(5, 9), 6}}, 6},
		{"its configuration's", []Beat{{conf(8, 0), conf(7, 9), 6}}, 8},
		{"the promised one's", []Beat{{conf(4, 9), conf(9, 0), 6}}, 9},
		{"all alike", []Beat{{conf(7, 1), conf(7, 2), 7}}, 7},
		{"only the beat's own", []Beat{{Epoch: 1}}, 1},
		{"only its configuration's", []Beat{{Conf: conf(1, 0)}}, 1},
		{"only the promised one's", []Beat{{Prom: conf(1, 0)}}, 1},
		{"representatives aren't epochs", []Beat{{conf(0, 63), conf(0, 62), 0}}, 0},
		{"representatives that are none", []Beat{{conf(2, -5), conf(1, math.MaxInt), 0}, {conf(0, math.MinInt), conf(0, 1<<40), 1}}, 2},
		{"the first one's", []Beat{{Epoch: 9}, {conf(8, 0), conf(7, 0), 6}}, 9},
		{"the last one's", []Beat{{conf(8, 0), conf(7, 0), 6}, {Prom: conf(9, 0)}}, 9},
		{"one amid them", []Beat{some(1), {Conf: conf(99, 0)}, some(2)}, 99},
		{"beyond 63 bits", []Beat{{Epoch: math.MaxInt64}, {Conf: conf(1<<63, 0)}}, 1 << 63},
		{"the greatest one", []Beat{{Prom: conf(math.MaxUint64, 0), Epoch: math.MaxUint64 - 1}, some(3)}, math.MaxUint64},
	} {
		e := New(0, 64, 1)
		for i, b := range x.l {
			e.Beat(i+1, b)
		}
		if got := e.Epoch(); got != x.want {
			t.Errorf("%s: Epoch() = %d, want %d", x.what, got, x.want)
		}
		e.Hear(40)
		e.Tick()
		e.Tick()
		if got := e.Epoch(); got != x.want {
			t.Errorf("%s, out of reach: Epoch() = %d, want %d", x.what, got, x.want)
		}
		e.Forget(set.All(64))
		if got := e.Epoch(); got != 0 {
			t.Errorf("%s, forgotten: Epoch() = %d", x.what, got)
		}
	}
}

func TestEpochIsOfLastBeatsAlone(t *testing.T) {
	e := New(3, 5, 9)
	e.Beat(0, Beat{Epoch: 50})
	e.Beat(0, Beat{Prom: conf(7, 0)})
	if got := e.Epoch(); got != 7 {
		t.Errorf("a beat behind it: %d", got)
	}
	e.Beat(3, Beat{Epoch: 60})
	e.Beat(5, Beat{Epoch: 60})
	if got := e.Epoch(); got != 7 {
		t.Errorf("beats that play no part: %d", got)
	}
	e.Beat(4, Beat{Conf: conf(30, 4)})
	e.Forget(set.Of(4))
	if got := e.Epoch(); got != 7 {
		t.Errorf("one is forgotten: %d", got)
	}
}

func TestEpochOfEachProcess(t *testing.T) {
	for me := range 64 {
		e := New(me, 64, 0)
		var want uint64
		for p := range 64 {
			e.Beat(p, Beat{Conf: conf(uint64(p)+100, 0)})
			if p != me {
				want = uint64(p) + 100
			}
			if got := e.Epoch(); got != want {
				t.Fatalf("the ear of %d, beats up to %d: %d, want %d", me, p, got, want)
			}
		}
	}
}

// P9.2: Of.

func TestOfEachProcess(t *testing.T) {
	for me := range 64 {
		e := New(me, 64, 0)
		for p := range 64 {
			e.Beat(p, some(p))
		}
		for _, p := range processes() {
			b, ok := e.Of(p)
			if p == me || p < 0 || p > 63 {
				if b != (Beat{}) || ok {
					t.Fatalf("the ear of %d: Of(%d) = %v, %v", me, p, b, ok)
				}
			} else if b != some(p) || !ok {
				t.Fatalf("the ear of %d: Of(%d) = %v, %v", me, p, b, ok)
			}
		}
	}
}

func TestABeatStaysOutOfReach(t *testing.T) {
	held(t, "a beat of long ago", 1, 2, 0, joined([]call{beats(0, some(1))}, ticks(5), []call{forgets(0)}, ticks(2))...)
}

// P9.2: Strange.

func TestStrangeOfConfigurationsThatDifferInOneField(t *testing.T) {
	e := New(5, 8, 3)
	e.Beat(0, Beat{Conf: conf(7, 2), Prom: conf(7, 2), Epoch: 7})
	e.Beat(1, Beat{Conf: conf(7, 2), Prom: conf(7, 3), Epoch: 7})
	e.Beat(2, Beat{Conf: conf(7, 2), Prom: conf(8, 2), Epoch: 7})
	e.Beat(3, Beat{})
	e.Hear(4)
	e.Beat(5, Beat{Prom: conf(1, 1)})
	e.Beat(6, Beat{Conf: conf(1, 1), Prom: conf(7, 2), Epoch: 99})
	all := set.All(64)
	for _, x := range []struct {
		s    set.Set
		c    api.Conf
		want set.Set
	}{
		{all, conf(7, 2), set.Of(1, 2, 3)},
		{all, conf(7, 3), set.Of(0, 2, 3, 6)},
		{all, conf(8, 2), set.Of(0, 1, 3, 6)},
		{all, conf(8, 3), set.Of(0, 1, 2, 3, 6)},
		{all, conf(6, 2), set.Of(0, 1, 2, 3, 6)},
		{all, conf(7, -2), set.Of(0, 1, 2, 3, 6)},
		{all, conf(7+1<<32, 2), set.Of(0, 1, 2, 3, 6)},
		{all, conf(7, 2+1<<32), set.Of(0, 1, 2, 3, 6)},
		{all, conf(0, 0), set.Of(0, 1, 2, 6)},
		{all, conf(0, 1), set.Of(0, 1, 2, 3, 6)},
		{all, conf(1, 0), set.Of(0, 1, 2, 3, 6)},
		{0, conf(7, 2), 0},
		{0, conf(0, 0), 0},
		{set.Of(4, 5, 7, 8, 63), conf(9, 9), 0},
		{set.Of(0, 1), conf(7, 2), set.Of(1)},
		{set.Of(2), conf(7, 2), set.Of(2)},
		{set.Of(0, 6), conf(7, 2), 0},
		{set.Of(3, 4, 5), conf(7, 2), set.Of(3)},
	} {
		if got := e.Strange(x.s, x.c); got != x.want {
			t.Errorf("Strange(%v, %v) = %v, want %v", x.s.List(), x.c, got.List(), x.want.List())
		}
	}
}

func TestStrangeOfAllProcessesAndOutOfReach(t *testing.T) {
	e := New(9, 64, 0)
	for p := range 64 {
		e.Beat(p, Beat{Prom: conf(uint64(p%3), 0)})
	}
	e.Tick()
	var want set.Set
	for p := range 64 {
		if p != 9 && p%3 != 1 {
			want = want.With(p)
		}
	}
	if got := e.Strange(set.All(64), conf(1, 0)); got != want {
		t.Errorf("%v, want %v", got.List(), want.List())
	}
	e.Forget(set.Of(0, 2, 63))
	if got := e.Strange(set.All(64), conf(1, 0)); got != want.Less(0, 2, 63) {
		t.Errorf("some forgotten: %v", got.List())
	}
}

// P9.3: whoever is heard of each tick is always reached, whoever isn't for more than timeout ticks isn't.

func TestWhoeverIsHeardOfEachTickIsAlwaysReached(t *testing.T) {
	for _, timeout := range []int{1, 2, 3, 64, math.MaxInt} {
		e := New(0, 4, timeout)
		e.Hear(1)
		e.Beat(2, some(1))
		e.Hear(3)
		for k := 1; k <= 1000; k++ {
			e.Tick()
			if got := e.Reach(); !got.Has(1) || !got.Has(2) || got.Has(3) != (k <= timeout) {
				t.Fatalf("timeout %d, the tick %d: %v", timeout, k, got.List())
			}
			e.Hear(1)
			e.Beat(2, some(k))
			if k%100 == 0 {
				e.Forget(set.All(64))
			}
			if got := e.Reach(); !got.Has(1) || !got.Has(2) {
				t.Fatalf("timeout %d, behind the tick %d: %v", timeout, k, got.List())
			}
		}
	}
	e := New(0, 2, 0)
	for k := range 100 {
		e.Hear(1)
		if !e.Reach().Has(1) {
			t.Fatalf("timeout 0, heard of in the tick %d: not reached", k)
		}
		e.Tick()
		if e.Reach().Has(1) {
			t.Fatalf("timeout 0, heard of ahead of the tick %d: reached", k+1)
		}
	}
}

func TestGapsUpToTheTimeoutAreReachedAndLongerOnesAreNot(t *testing.T) {
	for timeout := range 8 {
		for gap := range 12 {
			e, m := both(1, 2, timeout, hears(0))
			lost := false
			for range 20 {
				for range gap {
					do(e, m, call{kind: tick})
					lost = lost || !e.Reach().Has(0)
				}
				do(e, m, beats(0, some(gap)))
				same(t, e, m, "a gap")
			}
			if lost != (gap > timeout) {
				t.Errorf("timeout %d, gaps of %d ticks: lost is %v", timeout, gap, lost)
			}
		}
	}
}

// All rows of up to five calls of a menu.
func TestAllRowsOfAMenu(t *testing.T) {
	menu := []call{{kind: tick}, hears(0), hears(2), beats(0, Beat{conf(1, 0), conf(2, 0), 0}), beats(2, Beat{conf(1, 0), conf(1, 1), 3}), beats(2, Beat{}), forgets(0), forgets(0, 1, 2), beats(1, some(1)), hears(3)}
	var walk func(timeout, deep int, row []call)
	walk = func(timeout, deep int, row []call) {
		e, m := both(1, 3, timeout, row...)
		same(t, e, m, "a row")
		if deep == 0 {
			return
		}
		for _, c := range menu {
			walk(timeout, deep-1, append(slices.Clone(row), c))
		}
	}
	walk(0, 4, nil)
	walk(1, 5, nil)
	walk(2, 4, nil)
}

// Rows that look like chance.
func TestRowsThatLookLikeChance(t *testing.T) {
	ns := []int{1, 2, 3, 5, 63, 64, 65}
	for seed := range 28 {
		d := turned(seed)
		n := ns[seed%len(ns)]
		e, m := both(d.below(n), n, d.below(5))
		for range 150 {
			p := d.below(n+2) - 1
			switch d.below(8) {
			case 0, 1:
				do(e, m, hears(p))
			case 2, 3, 4:
				do(e, m, beats(p, some(d.below(9))))
			case 5:
				do(e, m, call{kind: forget, s: d.some()})
			default:
				do(e, m, call{kind: tick})
			}
			same(t, e, m, "a row that looks like chance")
		}
	}
}

// That ears go their own ways, and that nothing panics.

func TestEarsAreOfTheirOwn(t *testing.T) {
	e, m := both(0, 3, 1, beats(1, some(1)))
	other, mo := both(0, 3, 1)
	do(e, m, beats(2, some(2)))
	do(e, m, call{kind: tick})
	same(t, other, mo, "an ear beside another one")
	do(other, mo, beats(1, some(3)))
	do(other, mo, forgets(2))
	same(t, e, m, "an ear, behind calls of the other one")
}

// Whoever copies a process that has an ear copies that as a value.
func TestAnEarCopiedAsAValueGoesItsOwnWay(t *testing.T) {
	e, m := both(0, 3, 1, beats(1, some(1)), hears(2))
	c := *e
	other, mo := &c, &told{me: 0, n: 3, timeout: 1, row: slices.Clone(m.row)}
	for _, x := range []call{{kind: tick}, beats(2, some(2)), {kind: tick}, beats(1, some(3)), forgets(2)} {
		do(e, m, x)
		same(t, other, mo, "a copy, behind a call of the other one")
		same(t, e, m, "what was copied")
	}
	for _, x := range []call{hears(2), forgets(1), {kind: tick}, {kind: tick}} {
		do(other, mo, x)
		same(t, e, m, "what was copied, behind a call of its copy")
		same(t, other, mo, "a copy")
	}
}

func TestNothingPanics(t *testing.T) {
	for _, me := range odd {
		for _, n := range odd {
			e := New(me, n, n)
			for _, p := range processes() {
				e.Hear(p)
				e.Beat(p, Beat{conf(math.MaxUint64, p), conf(1, p), math.MaxUint64})
				e.Of(p)
				e.Strange(set.Set(math.MaxUint64), conf(1, p))
				e.Forget(set.Set(math.MaxUint64))
				e.Tick()
				e.Reach()
				e.Epoch()
			}
		}
	}
}
