package hold

import (
	"fmt"
	"math"
	"reflect"
	"runtime"
	"slices"
	"testing"
	"weak"

	"consort/api"
)

// told: a hold as the chapter's words have it. It keeps all messages that were put, dropped ones too, and works out each answer anew from them.
type told struct{ row []entry }

// entry: a message that was put, and whether it was dropped.
type entry struct {
	m       api.Message
	dropped bool
}

// count: how many of p's were put.
func (m *told) count(p int) uint32 {
	var n uint32
	for _, x := range m.row {
		if x.m.From == p {
			n++
		}
	}
	return n
}

// low: how many of p's were dropped.
func (m *told) low(p int) uint32 {
	var n uint32
	for _, x := range m.row {
		if x.m.From == p && x.dropped {
			n++
		}
	}
	return n
}

func (m *told) put(x api.Message) api.Errno {
	if x.From < 0 || x.From > 63 {
		return 1
	}
	if uint64(x.Seq) != uint64(m.count(x.From))+1 {
		return 13
	}
	m.row = append(m.row, entry{m: x})
	return 0
}

func (m *told) drop(p int, upto uint32) {
	for i, x := range m.row {
		if x.m.From == p && x.m.Seq <= upto {
			m.row[i].dropped = true
		}
	}
}

// held: those of p that are held, from that number on.
func (m *told) held(p int, seq uint32) []api.Message {
	var out []api.Message
	for _, x := range m.row {
		if x.m.From == p && x.m.Seq >= seq && !x.dropped {
			out = append(out, x.m)
		}
	}
	return out
}

func (m *told) get(p int, seq uint32) (api.Message, bool) {
	for _, x := range m.held(p, seq) {
		if x.Seq == seq {
			return x, true
		}
	}
	return api.Message{}, false
}

func (m *told) vector(n int) []uint32 {
	var out []uint32
	for p := range 64 {
		if p < n {
			out = append(out, m.count(p))
		}
	}
	return out
}

func (m *told) from(p int, seq uint32, most int) []api.Message {
	var out []api.Message
	for _, x := range m.held(p, seq) {
		if len(out) < most {
			out = append(out, x)
		}
	}
	return out
}

// before: does a come ahead of b, by stamp, by sender, by number?
func before(a, b api.Message) bool {
	if a.Stamp != b.Stamp {
		return a.Stamp < b.Stamp
	}
	if a.From != b.From {
		return a.From < b.From
	}
	return a.Seq < b.Seq
}

func (m *told) above(k api.Key) []api.Message {
	var out []api.Message
	for _, x := range m.row {
		if x.dropped || x.m.Stamp < k.Stamp || x.m.Stamp == k.Stamp && x.m.From <= k.From {
			continue
		}
		i := 0
		for i < len(out) && before(out[i], x.m) {
			i++
		}
		out = slices.Insert(out, i, x.m)
	}
	return out
}

func (m *told) copy() *told { return &told{row: slices.Clone(m.row)} }

// odd: numbers that are no process; the lowest bits of some are those of one.
var odd = []int{math.MinInt, math.MinInt + 1, -1 << 32, -1<<32 + 1, -64, -63, -2, -1, 64, 65, 66, 127, 128, 256, 1 << 31, 1 << 32, 1<<32 + 1, math.MaxInt - 1, math.MaxInt}

// everybody: all processes, and numbers that are none.
func everybody() []int {
	out := slices.Clone(odd)
	for p := range 64 {
		out = append(out, p)
	}
	return out
}

// asked: the processes that have messages, and some that may have none, or be none.
func (m *told) asked() []int {
	out := []int{-1, 0, 2, 63, 64}
	for _, x := range m.row {
		out = append(out, x.m.From)
	}
	slices.Sort(out)
	return slices.Compact(out)
}

// numbers: those of which a hold is asked: at the edges, at p's low mark and at its count.
func (m *told) numbers(p int) []uint32 {
	low, count := m.low(p), m.count(p)
	out := []uint32{0, 1, low, low + 1, low + 2, count, count + 1, count + 2, 1 << 31, math.MaxUint32 - 1, math.MaxUint32}
	if low > 0 {
		out = append(out, low-1)
	}
	if count > 0 {
		out = append(out, count-1)
	}
	slices.Sort(out)
	return slices.Compact(out)
}

// mosts: how many From is asked for, where so many are there.
func mosts(n int) []int {
	out := []int{math.MinInt, -1, 0, 1, 2, n - 1, n, n + 1, 1 << 32, math.MaxInt}
	slices.Sort(out)
	return slices.Compact(out)
}

// keys: those of which Above is asked: below all, above all, and about the first, some and the last ones of those that were put.
func (m *told) keys() []api.Key {
	out := []api.Key{{}, {From: -1}, {From: math.MinInt}, {Stamp: math.MaxUint64, From: 62}, {Stamp: math.MaxUint64, From: math.MaxInt}}
	for i, x := range m.row {
		if i > 2 && i < len(m.row)-3 && i%17 > 0 {
			continue
		}
		s, p := x.m.Stamp, x.m.From
		out = append(out, api.Key{Stamp: s, From: p}, api.Key{Stamp: s, From: p - 1}, api.Key{Stamp: s, From: p + 1})
		if s > 0 {
			out = append(out, api.Key{Stamp: s - 1, From: 64})
		}
	}
	return out
}

// message: one of these; its other fields differ from those of other marks.
func message(from int, seq uint32, stamp uint64, mark int) api.Message {
	deps := make([]uint32, mark%4, mark%4+2)
	for i := range deps {
		deps[i] = seq + uint32(mark*10+i)
	}
	return api.Message{From: from, Seq: seq, Stamp: stamp, Service: mark % 3, Deps: deps, Payload: fmt.Sprint("p", from, " ", seq, " ", mark)}
}

// equal: are two the same in all fields?
func equal(a, b api.Message) bool {
	return a.From == b.From && a.Seq == b.Seq && a.Stamp == b.Stamp && a.Service == b.Service && a.Payload == b.Payload && slices.Equal(a.Deps, b.Deps)
}

// alike: are two lists of messages?
func alike(a, b []api.Message) bool { return slices.EqualFunc(a, b, equal) }

// names: sender and number of each of these.
func names(l []api.Message) []string {
	out := []string{}
	for _, m := range l {
		out = append(out, fmt.Sprint(m.From, ".", m.Seq))
	}
	return out
}

// deepCopy: these, with Deps of their own.
func deepCopy(l []api.Message) []api.Message {
	out := slices.Clone(l)
	for i, m := range l {
		out[i].Deps = slices.Clone(m.Deps)
	}
	return out
}

// state: all that a hold has, to be held against what it has later.
func state(h *Hold) *Hold {
	out := *h
	for p, l := range h.held {
		out.held[p] = deepCopy(l)
	}
	return &out
}

// unchanged: whether h is as it was.
func unchanged(t *testing.T, h, was *Hold, what string) {
	t.Helper()
	if !reflect.DeepEqual(h, was) {
		t.Fatalf("%s: the hold was changed", what)
	}
}

// same: whether h answers as m does, of all that is asked; answers leave the hold as it is.
func same(t *testing.T, h *Hold, m *told, what string) {
	t.Helper()
	was := state(h)
	for _, p := range m.asked() {
		sameOf(t, h, m, p, what)
	}
	for _, n := range []int{math.MinInt, -1, 0, 1, 2, 63, 64, 65, math.MaxInt} {
		if l := h.Vector(n); !slices.Equal(l, m.vector(n)) {
			t.Fatalf("%s: Vector(%d) = %v, want %v", what, n, l, m.vector(n))
		}
	}
	for _, k := range m.keys() {
		if l := h.Above(k); !alike(l, m.above(k)) {
			t.Fatalf("%s: Above(%v) = %v, want %v", what, k, names(l), names(m.above(k)))
		}
	}
	unchanged(t, h, was, what+": by answers")
}

// sameOf: whether h answers as m does, of the process p.
func sameOf(t *testing.T, h *Hold, m *told, p int, what string) {
	t.Helper()
	if h.Count(p) != m.count(p) || h.Low(p) != m.low(p) {
		t.Fatalf("%s: Count(%d) = %d, Low = %d, want %d, %d", what, p, h.Count(p), h.Low(p), m.count(p), m.low(p))
	}
	for _, seq := range m.numbers(p) {
		got, ok := h.Get(p, seq)
		if want, wantOK := m.get(p, seq); ok != wantOK || !equal(got, want) {
			t.Fatalf("%s: Get(%d, %d) = %+v, %v, want %+v, %v", what, p, seq, got, ok, want, wantOK)
		}
		for _, most := range mosts(len(m.held(p, seq))) {
			if l := h.From(p, seq, most); !alike(l, m.from(p, seq, most)) {
				t.Fatalf("%s: From(%d, %d, %d) = %v, want %v", what, p, seq, most, names(l), names(m.from(p, seq, most)))
			}
		}
	}
}

// call: of Put, with m, or of Drop, with p and upto.
type call struct {
	drop bool
	m    api.Message
	p    int
	upto uint32
}

func put(from int, seq uint32, stamp uint64) call {
	return call{m: message(from, seq, stamp, int(seq))}
}
func drop(p int, upto uint32) call { return call{drop: true, p: p, upto: upto} }

// puts: n messages of a process, from the number 1 on, of rising stamps.
func puts(from, n int) []call {
	var out []call
	for seq := 1; seq <= n; seq++ {
		out = append(out, put(from, uint32(seq), uint64(seq*2)))
	}
	return out
}

// do: the call is made on both, which answer the same; an error changes nothing, and no low mark falls.
func do(t *testing.T, h *Hold, m *told, c call, what string) {
	t.Helper()
	p, was := c.p, state(h)
	if c.drop {
		m.drop(c.p, c.upto)
		h.Drop(c.p, c.upto)
	} else {
		p = c.m.From
		want := m.put(c.m)
		if e := h.Put(c.m); e != want {
			t.Fatalf("%s: Put of %d.%d = %d, want %d", what, c.m.From, c.m.Seq, e, want)
		}
		if want != api.OK {
			unchanged(t, h, was, what+": by an error")
		}
	}
	if h.Low(p) < was.Low(p) || h.Count(p) < was.Count(p) || h.Low(p) > h.Count(p) {
		t.Fatalf("%s: Low(%d) = %d, and was %d; Count = %d, and was %d", what, p, h.Low(p), was.Low(p), h.Count(p), was.Count(p))
	}
}

// both: a hold and what it was told: these calls, each answer held against the other.
func both(t *testing.T, what string, rows ...[]call) (*Hold, *told) {
	t.Helper()
	h, m := New(), &told{}
	same(t, h, m, what+", at the beginning")
	for i, c := range slices.Concat(rows...) {
		do(t, h, m, c, what)
		same(t, h, m, fmt.Sprint(what, ", behind the call ", i))
	}
	return h, m
}

// turned: numbers that look like chance, the same ones each time.
type turned uint64

func (d *turned) below(n int) int {
	*d = *d*6364136223846793005 + 1442695040888963407
	return int(uint64(*d) >> 33 % uint64(n))
}

// P12.1: New, Put, Count, Low, Get, Drop.

func TestANewHoldHasNoMessages(t *testing.T) {
	h := New()
	for _, p := range everybody() {
		if h.Count(p) != 0 || h.Low(p) != 0 || len(h.From(p, 0, 99)) != 0 {
			t.Errorf("Count(%d) = %d, Low = %d", p, h.Count(p), h.Low(p))
		}
		for _, seq := range []uint32{0, 1, 2, math.MaxUint32} {
			if x, ok := h.Get(p, seq); ok || !equal(x, api.Message{}) {
				t.Errorf("Get(%d, %d) = %+v, %v", p, seq, x, ok)
			}
		}
	}
	if l := h.Above(api.Key{From: -1}); len(l) != 0 {
		t.Errorf("Above = %v", names(l))
	}
	if l := h.Vector(64); !slices.Equal(l, make([]uint32, 64)) {
		t.Errorf("Vector(64) = %v", l)
	}
	same(t, h, &told{}, "a new hold")
}

func TestTheExamples(t *testing.T) {
	for p := range 64 {
		h := New()
		if e := h.Put(api.Message{From: p, Seq: 1}); e != api.OK {
			t.Errorf("%d: Put of 1 = %d", p, e)
		}
		if e := h.Put(api.Message{From: p, Seq: 3}); e != api.ErrOrder {
			t.Errorf("%d: Put of 3 = %d", p, e)
		}
		h.Drop(p, 1)
		if _, ok := h.Get(p, 1); ok || h.Low(p) != 1 || h.Count(p) != 1 {
			t.Errorf("%d: Drop of 1: Get(1) = %v, Low = %d, Count = %d", p, ok, h.Low(p), h.Count(p))
		}
	}
}

func TestEachProcessHasItsOwn(t *testing.T) {
	for p := range 64 {
		h := New()
		for seq := uint32(1); seq <= 3; seq++ {
			if e := h.Put(message(p, seq, 7, 1)); e != api.OK {
				t.Fatalf("Put of %d.%d = %d", p, seq, e)
			}
		}
		h.Drop(p, 1)
		for _, q := range everybody() {
			var count, low uint32
			if p == q {
				count, low = 3, 1
			}
			if h.Count(q) != count || h.Low(q) != low || len(h.From(q, 0, 9)) != int(count-low) {
				t.Errorf("of %d: Count(%d) = %d, Low = %d, From = %v", p, q, h.Count(q), h.Low(q), names(h.From(q, 0, 9)))
			}
			if _, ok := h.Get(q, 2); ok != (p == q) {
				t.Errorf("of %d: Get(%d, 2) = %v", p, q, ok)
			}
		}
	}
}

// step: a call, what Put answers, and behind it the counts and low marks of the processes 0, 1 and 63, and all that is held.
type step struct {
	c     call
	e     api.Errno
	count [3]uint32
	low   [3]uint32
	held  []string
}

var rows = []struct {
	what string
	row  []step
}{
	{"one process", []step{
		{put(0, 1, 4), 0, [3]uint32{1, 0, 0}, [3]uint32{}, []string{"0.1"}},
		{put(0, 2, 5), 0, [3]uint32{2, 0, 0}, [3]uint32{}, []string{"0.1", "0.2"}},
		{put(0, 2, 5), 13, [3]uint32{2, 0, 0}, [3]uint32{}, []string{"0.1", "0.2"}},
		{put(0, 4, 5), 13, [3]uint32{2, 0, 0}, [3]uint32{}, []string{"0.1", "0.2"}},
		{drop(0, 1), 0, [3]uint32{2, 0, 0}, [3]uint32{1, 0, 0}, []string{"0.2"}},
		{put(0, 3, 6), 0, [3]uint32{3, 0, 0}, [3]uint32{1, 0, 0}, []string{"0.2", "0.3"}},
		{drop(0, 99), 0, [3]uint32{3, 0, 0}, [3]uint32{3, 0, 0}, nil},
		{put(0, 1, 7), 13, [3]uint32{3, 0, 0}, [3]uint32{3, 0, 0}, nil},
		{put(0, 100, 7), 13, [3]uint32{3, 0, 0}, [3]uint32{3, 0, 0}, nil},
		{put(0, 4, 7), 0, [3]uint32{4, 0, 0}, [3]uint32{3, 0, 0}, []string{"0.4"}},
	}},
	{"three of them", []step{
		{put(63, 1, 4), 0, [3]uint32{0, 0, 1}, [3]uint32{}, []string{"63.1"}},
		{put(1, 1, 4), 0, [3]uint32{0, 1, 1}, [3]uint32{}, []string{"1.1", "63.1"}},
		{put(0, 1, 9), 0, [3]uint32{1, 1, 1}, [3]uint32{}, []string{"1.1", "63.1", "0.1"}},
		{put(1, 2, 8), 0, [3]uint32{1, 2, 1}, [3]uint32{}, []string{"1.1", "63.1", "1.2", "0.1"}},
		{drop(63, 1), 0, [3]uint32{1, 2, 1}, [3]uint32{0, 0, 1}, []string{"1.1", "1.2", "0.1"}},
		{drop(0, 0), 0, [3]uint32{1, 2, 1}, [3]uint32{0, 0, 1}, []string{"1.1", "1.2", "0.1"}},
		{drop(1, 2), 0, [3]uint32{1, 2, 1}, [3]uint32{0, 2, 1}, []string{"0.1"}},
		{drop(1, 1), 0, [3]uint32{1, 2, 1}, [3]uint32{0, 2, 1}, []string{"0.1"}},
		{put(63, 2, 2), 0, [3]uint32{1, 2, 2}, [3]uint32{0, 2, 1}, []string{"63.2", "0.1"}},
		{put(64, 1, 2), 1, [3]uint32{1, 2, 2}, [3]uint32{0, 2, 1}, []string{"63.2", "0.1"}},
		{put(-1, 0, 2), 1, [3]uint32{1, 2, 2}, [3]uint32{0, 2, 1}, []string{"63.2", "0.1"}},
	}},
	{"stamps that fall, and that stay", []step{
		{put(1, 1, 9), 0, [3]uint32{0, 1, 0}, [3]uint32{}, []string{"1.1"}},
		{put(1, 2, 5), 0, [3]uint32{0, 2, 0}, [3]uint32{}, []string{"1.2", "1.1"}},
		{put(1, 3, 5), 0, [3]uint32{0, 3, 0}, [3]uint32{}, []string{"1.2", "1.3", "1.1"}},
		{put(0, 1, 5), 0, [3]uint32{1, 3, 0}, [3]uint32{}, []string{"0.1", "1.2", "1.3", "1.1"}},
		{put(1, 4, 0), 0, [3]uint32{1, 4, 0}, [3]uint32{}, []string{"1.4", "0.1", "1.2", "1.3", "1.1"}},
		{drop(1, 2), 0, [3]uint32{1, 4, 0}, [3]uint32{0, 2, 0}, []string{"1.4", "0.1", "1.3"}},
	}},
}

func TestRows(t *testing.T) {
	for _, x := range rows {
		h := New()
		for i, s := range x.row {
			if s.c.drop {
				h.Drop(s.c.p, s.c.upto)
			} else if e := h.Put(s.c.m); e != s.e {
				t.Errorf("%s: the call %d: Put = %d, want %d", x.what, i, e, s.e)
			}
			for k, p := range []int{0, 1, 63} {
				if h.Count(p) != s.count[k] || h.Low(p) != s.low[k] || h.Vector(64)[p] != s.count[k] {
					t.Errorf("%s: the call %d: Count(%d) = %d, Low = %d, want %d, %d", x.what, i, p, h.Count(p), h.Low(p), s.count[k], s.low[k])
				}
			}
			if l := names(h.Above(api.Key{From: -1})); !slices.Equal(l, s.held) {
				t.Errorf("%s: the call %d: held %v, want %v", x.what, i, l, s.held)
			}
		}
		var l []call
		for _, s := range x.row {
			l = append(l, s.c)
		}
		both(t, x.what, l)
	}
}

func TestPutOfWhatIsNoProcess(t *testing.T) {
	for _, p := range odd {
		h, m := both(t, "no process", puts(0, 2), puts(1, 1), puts(63, 1), []call{drop(1, 1)})
		for _, seq := range []uint32{0, 1, 2, 3, 4, math.MaxUint32} { // the error of the number comes behind that of the process
			was := state(h)
			if e := h.Put(message(p, seq, 1, 1)); e != api.ErrRange {
				t.Errorf("Put of %d.%d = %d", p, seq, e)
			}
			unchanged(t, h, was, "by a process that is none")
		}
		same(t, h, m, "no process")
	}
}

// A Put's number is the count and 1, whatever was dropped.
func TestPutOutOfOrder(t *testing.T) {
	for _, p := range []int{0, 1, 31, 62, 63} {
		for _, count := range []uint32{0, 1, 2, 5, 64, 65, 300} {
			for _, low := range []uint32{0, 1, count / 2, count} {
				h := New()
				for seq := uint32(1); seq <= count; seq++ {
					h.Put(message(p, seq, 1, 1))
				}
				h.Drop(p, low)
				was := state(h)
				for _, seq := range []uint32{0, 1, low, low + 1, count - 1, count, count + 2, count + 1<<16, 1 << 31, math.MaxUint32 - 1, math.MaxUint32} {
					if seq == count+1 {
						continue
					}
					if e := h.Put(message(p, seq, 1, 1)); e != api.ErrOrder {
						t.Fatalf("Put of %d.%d at the count %d, the low mark %d: %d", p, seq, count, low, e)
					}
					unchanged(t, h, was, "by a number out of order")
				}
				if e := h.Put(message(p, count+1, 1, 1)); e != api.OK || h.Count(p) != count+1 || h.Low(p) != min(low, count) {
					t.Fatalf("Put of %d.%d, the low mark %d: %d, Count = %d, Low = %d", p, count+1, low, e, h.Count(p), h.Low(p))
				}
			}
		}
	}
}

func TestGet(t *testing.T) {
	h, _ := both(t, "Get", puts(1, 5), puts(63, 2), []call{drop(1, 2), drop(63, 9)})
	for _, x := range []struct {
		what string
		p    int
		seq  uint32
		ok   bool
	}{
		{"0", 1, 0, false},
		{"below the low mark", 1, 1, false},
		{"the low mark", 1, 2, false},
		{"one above it", 1, 3, true},
		{"between", 1, 4, true},
		{"the count", 1, 5, true},
		{"one above it", 1, 6, false},
		{"far above", 1, 1 << 31, false},
		{"the greatest number", 1, math.MaxUint32, false},
		{"0, all dropped", 63, 0, false},
		{"the count, all dropped", 63, 2, false},
		{"one above it, all dropped", 63, 3, false},
		{"0, without messages", 0, 0, false},
		{"1, without messages", 0, 1, false},
		{"0, below all processes", -1, 0, false},
		{"3, below all processes", -1, 3, false},
		{"3, 63 below the process", -63, 3, false},
		{"0, above all processes", 64, 0, false},
		{"3, 64 above the process", 65, 3, false},
		{"3, 2^32 above the process", 1<<32 + 1, 3, false},
		{"the least process", math.MinInt, 3, false},
		{"the greatest process", math.MaxInt, 3, false},
	} {
		want := api.Message{}
		if x.ok {
			want = put(x.p, x.seq, uint64(x.seq)*2).m
		}
		if m, ok := h.Get(x.p, x.seq); ok != x.ok || !equal(m, want) {
			t.Errorf("%s: Get(%d, %d) = %+v, %v, want %+v, %v", x.what, x.p, x.seq, m, ok, want, x.ok)
		}
	}
}

func TestDrop(t *testing.T) {
	for _, x := range []struct {
		what string
		p    int
		upto uint32
		low  uint32 // of the process 1, whose low mark is 2, and whose count is 5
	}{
		{"0", 1, 0, 2},
		{"below the low mark", 1, 1, 2},
		{"just that", 1, 2, 2},
		{"one above it", 1, 3, 3},
		{"two above it", 1, 4, 4},
		{"the count", 1, 5, 5},
		{"one above it", 1, 6, 5},
		{"far above", 1, 1 << 31, 5},
		{"the greatest number", 1, math.MaxUint32, 5},
		{"of one without messages, 0", 0, 0, 2},
		{"of one without messages, 1", 0, 1, 2},
		{"of one without messages, the greatest number", 2, math.MaxUint32, 2},
		{"below all processes", -1, 5, 2},
		{"63 below the process", -63, 5, 2},
		{"above all processes", 64, 5, 2},
		{"64 above the process", 65, 5, 2},
		{"2^32 above the process", 1<<32 + 1, 5, 2},
		{"the least process", math.MinInt, 5, 2},
		{"the greatest process", math.MaxInt, math.MaxUint32, 2},
	} {
		h, m := both(t, x.what, puts(1, 5), puts(63, 3), []call{drop(1, 2), drop(63, 1), drop(x.p, x.upto)})
		for range 2 { // the same once more drops nothing
			if h.Low(1) != x.low || h.Count(1) != 5 || len(h.From(1, 0, 9)) != int(5-x.low) || h.Low(63) != 1 || h.Low(0) != 0 || h.Count(0) != 0 || h.Low(x.p) != m.low(x.p) {
				t.Errorf("%s: Low(1) = %d, Count(1) = %d, From = %v", x.what, h.Low(1), h.Count(1), names(h.From(1, 0, 9)))
			}
			h.Drop(x.p, x.upto)
		}
		do(t, h, m, put(1, 6, 20), x.what)
		do(t, h, m, put(0, 1, 20), x.what)
		same(t, h, m, x.what+", and one more")
		if y, ok := h.Get(1, 6); !ok || !equal(y, put(1, 6, 20).m) || h.Count(1) != 6 || h.Low(1) != x.low {
			t.Errorf("%s, and one more: Get(1, 6) = %+v, %v, Low(1) = %d", x.what, y, ok, h.Low(1))
		}
	}
}

// What isn't there yet isn't dropped.
func TestDropAheadOfPut(t *testing.T) {
	h, m := both(t, "dropped ahead", []call{drop(3, 9), put(3, 1, 1), put(3, 2, 2), drop(3, 7)}, puts(2, 1))
	for seq := uint32(3); seq <= 9; seq++ {
		do(t, h, m, put(3, seq, uint64(seq)), "dropped ahead")
		if x, ok := h.Get(3, seq); !ok || x.Seq != seq || h.Low(3) != 2 || h.Count(3) != seq {
			t.Errorf("Get(3, %d) = %+v, %v, Low = %d", seq, x, ok, h.Low(3))
		}
	}
}

func TestPutBehindAllThatWereDropped(t *testing.T) {
	for _, p := range []int{0, 1, 62, 63} {
		h, m := both(t, "all dropped")
		for n := uint32(0); n < 60; {
			for range n%5 + 1 {
				n++
				do(t, h, m, put(p, n, uint64(n)), "all dropped")
			}
			do(t, h, m, drop(p, n), "all dropped")
			if h.Low(p) != n || h.Count(p) != n || len(h.From(p, 0, 99)) != 0 || len(h.Above(api.Key{From: -1})) != 0 {
				t.Fatalf("%d: Low = %d, Count = %d", n, h.Low(p), h.Count(p))
			}
			same(t, h, m, "all dropped")
		}
	}
}

// P12.2: Vector, From, Above, Copy.

func TestVector(t *testing.T) {
	h := New()
	for p := range 64 {
		for seq := range uint32(p % 5) {
			h.Put(message(p, seq+1, 1, 1))
		}
		h.Drop(p, uint32(p%3)) // it counts what was dropped, too
	}
	for _, x := range []struct{ n, size int }{
		{math.MinInt, 0}, {-1 << 32, 0}, {-1<<32 + 2, 0}, {-64, 0}, {-1, 0}, {0, 0}, {1, 1}, {2, 2}, {5, 5}, {32, 32}, {62, 62}, {63, 63}, {64, 64}, {65, 64}, {66, 64}, {128, 64}, {1 << 31, 64}, {1 << 32, 64}, {1<<32 + 2, 64}, {math.MaxInt, 64},
	} {
		l := h.Vector(x.n)
		if len(l) != x.size {
			t.Errorf("Vector(%d) has %d", x.n, len(l))
		}
		for p, n := range l {
			if n != uint32(p%5) {
				t.Errorf("Vector(%d)[%d] = %d", x.n, p, n)
			}
		}
	}
}

func TestFrom(t *testing.T) {
	h, _ := both(t, "From", puts(1, 6), puts(63, 2), []call{drop(1, 2), drop(63, 9)})
	for _, x := range []struct {
		what string
		p    int
		seq  uint32
		most int
		want []uint32
	}{
		{"from 0", 1, 0, 99, []uint32{3, 4, 5, 6}},
		{"from below the low mark", 1, 1, 99, []uint32{3, 4, 5, 6}},
		{"from the low mark", 1, 2, 99, []uint32{3, 4, 5, 6}},
		{"from one above it", 1, 3, 99, []uint32{3, 4, 5, 6}},
		{"from two above it", 1, 4, 99, []uint32{4, 5, 6}},
		{"from the count", 1, 6, 99, []uint32{6}},
		{"from one above it", 1, 7, 99, nil},
		{"from two above it", 1, 8, 99, nil},
		{"from the greatest number", 1, math.MaxUint32, 99, nil},
		{"the least number of them", 1, 0, math.MinInt, nil},
		{"-1 of them", 1, 0, -1, nil},
		{"none of them", 1, 0, 0, nil},
		{"none of them, from the count", 1, 6, 0, nil},
		{"one of them", 1, 0, 1, []uint32{3}},
		{"one of them, from between", 1, 5, 1, []uint32{5}},
		{"one of them, from above the count", 1, 7, 1, nil},
		{"two of them, from below the low mark", 1, 1, 2, []uint32{3, 4}},
		{"one less than there are", 1, 0, 3, []uint32{3, 4, 5}},
		{"just as many as there are", 1, 0, 4, []uint32{3, 4, 5, 6}},
		{"one more than there are", 1, 0, 5, []uint32{3, 4, 5, 6}},
		{"just as many as there are behind", 1, 5, 2, []uint32{5, 6}},
		{"one more than there are behind", 1, 5, 3, []uint32{5, 6}},
		{"2^32 of them", 1, 4, 1 << 32, []uint32{4, 5, 6}},
		{"the greatest number of them", 1, 4, math.MaxInt, []uint32{4, 5, 6}},
		{"the greatest number of them, from the greatest number", 1, math.MaxUint32, math.MaxInt, nil},
		{"all dropped", 63, 0, 99, nil},
		{"all dropped, from the count", 63, 2, 99, nil},
		{"without messages", 0, 0, 99, nil},
		{"without messages, from 1", 0, 1, 1, nil},
		{"below all processes", -1, 0, 99, nil},
		{"63 below the process", -63, 0, 99, nil},
		{"above all processes", 64, 0, 99, nil},
		{"64 above the process", 65, 3, 99, nil},
		{"2^32 above the process", 1<<32 + 1, 0, 99, nil},
		{"the least process", math.MinInt, 0, 99, nil},
		{"the greatest process", math.MaxInt, math.MaxUint32, math.MaxInt, nil},
	} {
		l := h.From(x.p, x.seq, x.most)
		var got []uint32
		for _, m := range l {
			got = append(got, m.Seq)
			if !equal(m, put(1, m.Seq, uint64(m.Seq)*2).m) {
				t.Errorf("%s: %+v", x.what, m)
			}
		}
		if !slices.Equal(got, x.want) {
			t.Errorf("%s: From(%d, %d, %d) = %v, want %v", x.what, x.p, x.seq, x.most, got, x.want)
		}
	}
}

func TestAbove(t *testing.T) {
	// The keys, in their order: {0 63}, {5 0}, {5 1}, {5 1}, {5 63}, {7 0}, {9 1}, {2^64-1 2}.
	h, _ := both(t, "Above", []call{
		put(1, 1, 9), put(1, 2, 5), put(63, 1, 3), put(63, 2, 5), put(2, 1, math.MaxUint64), put(1, 3, 5), put(63, 3, 0), put(0, 1, 5), put(0, 2, 7), drop(63, 1),
	})
	all := []string{"63.3", "0.1", "1.2", "1.3", "63.2", "0.2", "1.1", "2.1"}
	for _, x := range []struct {
		what  string
		k     api.Key
		ahead int // how many aren't behind it
	}{
		{"below all", api.Key{From: -1}, 0},
		{"below all, of the least process", api.Key{From: math.MinInt}, 0},
		{"the zero key", api.Key{}, 0},
		{"just ahead of the first one", api.Key{From: 62}, 0},
		{"the first one's", api.Key{From: 63}, 1},
		{"just behind it", api.Key{From: 64}, 1},
		{"of one that was dropped", api.Key{Stamp: 3, From: 63}, 1},
		{"ahead of all of a stamp", api.Key{Stamp: 5, From: -1}, 1},
		{"the first one's of that stamp", api.Key{Stamp: 5}, 2},
		{"that of two", api.Key{Stamp: 5, From: 1}, 4},
		{"between two of that stamp", api.Key{Stamp: 5, From: 2}, 4},
		{"just ahead of the last one of that stamp", api.Key{Stamp: 5, From: 62}, 4},
		{"the last one's of that stamp", api.Key{Stamp: 5, From: 63}, 5},
		{"behind all of that stamp", api.Key{Stamp: 5, From: math.MaxInt}, 5},
		{"between two stamps", api.Key{Stamp: 6, From: 5}, 5},
		{"one alone of its stamp", api.Key{Stamp: 7}, 6},
		{"behind it", api.Key{Stamp: 9}, 6},
		{"the last one's but one", api.Key{Stamp: 9, From: 1}, 7},
		{"just ahead of the last one", api.Key{Stamp: math.MaxUint64, From: 1}, 7},
		{"the last one's", api.Key{Stamp: math.MaxUint64, From: 2}, 8},
		{"above all", api.Key{Stamp: math.MaxUint64, From: 3}, 8},
		{"above all, of the greatest process", api.Key{Stamp: math.MaxUint64, From: math.MaxInt}, 8},
	} {
		if l := names(h.Above(x.k)); !slices.Equal(l, all[x.ahead:]) {
			t.Errorf("%s: Above(%v) = %v, want %v", x.what, x.k, l, all[x.ahead:])
		}
	}
}

// Of one key by numbers, and of one stamp by senders, however many they are.
func TestAboveOfManyOfOneStamp(t *testing.T) {
	h, m := both(t, "of one stamp")
	var want []string
	for p := range 64 {
		for seq := uint32(1); seq <= 5; seq++ {
			want = append(want, fmt.Sprint(p, ".", seq))
		}
	}
	for seq := uint32(1); seq <= 5; seq++ {
		for p := 63; p >= 0; p-- {
			do(t, h, m, put(p, seq, 4), "of one stamp")
		}
	}
	for p := -1; p <= 64; p++ {
		ahead := min(5*(p+1), len(want))
		if l := names(h.Above(api.Key{Stamp: 4, From: p})); !slices.Equal(l, want[ahead:]) {
			t.Errorf("Above of the process %d: %v, want %v", p, l, want[ahead:])
		}
	}
	if l := names(h.Above(api.Key{Stamp: 3, From: 99})); !slices.Equal(l, want) {
		t.Errorf("Above of the stamp ahead: %v", l)
	}
}

// ways: what two holds do beside each other, from the same beginning on.
var ways = [][]call{
	{put(0, 4, 3), put(0, 5, 1), put(1, 1, 9), drop(0, 2), put(63, 3, 4)},
	{put(0, 4, 8), put(2, 1, 8), drop(63, 2), drop(0, 4), put(0, 5, 8)},
	{drop(0, 99), drop(63, 1), put(0, 4, 2), put(0, 9, 2), put(63, 3, 1)},
	{put(63, 3, 7), put(63, 4, 7), put(63, 4, 7), put(64, 1, 7), drop(1, 5)},
}

func TestCopiesGoTheirOwnWays(t *testing.T) {
	for _, early := range []call{drop(5, 1), drop(0, 1), drop(0, 3), drop(63, 9)} {
		for i, one := range ways {
			for k, other := range ways {
				what := fmt.Sprint("the ways ", i, " and ", k)
				h, m := both(t, what, puts(0, 3), puts(63, 2), []call{early})
				c, mc := h.Copy(), m.copy()
				same(t, c, mc, what+": a copy")
				for n := range one { // by turns, so that each may spoil what the other one has
					x, y := one[n], other[n]
					x.m.Payload, y.m.Payload = "what was copied", "a copy"
					do(t, h, m, x, what)
					same(t, c, mc, what+": the copy, behind the other one")
					do(t, c, mc, y, what)
					same(t, h, m, what+": what was copied, behind the copy")
					same(t, c, mc, what+": the copy")
				}
				d, md := c.Copy(), mc.copy()
				do(t, c, mc, drop(0, 99), what)
				do(t, c, mc, drop(63, 99), what)
				same(t, d, md, what+": a copy of a copy")
				same(t, h, m, what+": what was copied")
			}
		}
	}
}

func TestHoldsAreOfTheirOwn(t *testing.T) {
	h, m := both(t, "a hold", puts(0, 2))
	other, mo := both(t, "another one", puts(1, 3), []call{drop(1, 1)})
	do(t, h, m, put(0, 3, 9), "a hold")
	do(t, h, m, drop(0, 2), "a hold")
	same(t, other, mo, "the other one")
	do(t, other, mo, put(0, 1, 1), "the other one")
	same(t, h, m, "a hold")
}

// P12.3: what was put is got, as it was put, until it is dropped.

func TestAllFieldsAreGotAsTheyWerePut(t *testing.T) {
	h, m := New(), &told{}
	for i, x := range []api.Message{
		{}, {Stamp: math.MaxUint64}, {Stamp: 1}, {Service: -1}, {Service: math.MaxInt}, {Service: math.MinInt}, {Deps: []uint32{}}, {Deps: []uint32{0}},
		{Deps: []uint32{0, 1 << 31, math.MaxUint32}}, {Deps: make([]uint32, 3000)}, {Payload: "\x00\xff"}, {Payload: string(make([]byte, 40000))}, {Service: 2, Stamp: 1 << 63, Deps: []uint32{1, 2, 3}, Payload: "all"},
	} {
		for _, p := range []int{0, 63} {
			x.From, x.Seq = p, uint32(i+1)
			do(t, h, m, call{m: x}, "odd fields")
			if got, ok := h.Get(p, x.Seq); !ok || !equal(got, x) {
				t.Errorf("%d.%d is got otherwise than it was put", p, x.Seq)
			}
			if l := h.From(p, x.Seq, 1); len(l) != 1 || !equal(l[0], x) {
				t.Errorf("%d.%d is told by From otherwise than it was put", p, x.Seq)
			}
		}
	}
	same(t, h, m, "odd fields")
	same(t, h.Copy(), m, "odd fields, copied")
}

// menu: calls that change a hold, where it has such as may be dropped.
var menu = []func(m *told, mark int) call{
	func(m *told, mark int) call { return next(m, 0, 5, mark) },
	func(m *told, mark int) call { return next(m, 0, 4, mark) },
	func(m *told, mark int) call { return next(m, 1, 5, mark) },
	func(m *told, mark int) call { return next(m, 63, 4, mark) },
	func(m *told, mark int) call { return drop(0, 1) },
	func(m *told, mark int) call { return drop(0, m.low(0)+1) },
	func(m *told, mark int) call { return drop(0, m.count(0)) },
	func(m *told, mark int) call { return drop(1, 99) },
	func(m *told, mark int) call { return drop(63, m.low(63)+1) },
}

// next: a process's next message is put.
func next(m *told, from int, stamp uint64, mark int) call {
	return call{m: message(from, m.count(from)+1, stamp, mark)}
}

// wrong: calls that change nothing.
func wrong(m *told) []call {
	var out []call
	for _, p := range []int{0, 1, 63} {
		out = append(out, put(p, 0, 1), put(p, m.count(p)+2, 1), drop(p, m.low(p)), drop(p, 0))
		if n := m.count(p); n > 0 {
			out = append(out, put(p, n, 1))
		}
	}
	return append(out, put(64, 1, 1), put(-1, 1, 1), drop(64, 1), drop(-1, 9), drop(2, 1))
}

// All rows of some calls of the menu, each on a copy, of which what was copied knows nothing.
func TestAllRowsOfAMenu(t *testing.T) {
	var walk func(h *Hold, m *told, deep int)
	walk = func(h *Hold, m *told, deep int) {
		same(t, h, m, "a row")
		was := state(h)
		for _, c := range wrong(m) {
			do(t, h, m, c, "a wrong call")
		}
		for _, f := range menu {
			if deep == 0 {
				break
			}
			c, mc := h.Copy(), m.copy()
			do(t, c, mc, f(m, deep+len(m.row)), "a row")
			walk(c, mc, deep-1)
		}
		unchanged(t, h, was, "by wrong calls, or by a copy's")
	}
	for _, x := range []struct {
		row  []call
		deep int
	}{
		{nil, 4},
		{[]call{put(0, 1, 5), put(0, 2, 5), put(1, 1, 3), put(0, 3, 9), put(63, 1, 5)}, 3},
		{[]call{put(0, 1, 4), put(0, 2, 6), put(0, 3, 5), drop(0, 2), put(63, 1, 9), drop(63, 1)}, 3},
	} {
		h, m := both(t, "rows", x.row)
		walk(h, m, x.deep)
	}
}

// Rows that look like chance: some processes put and drop between each other, sometimes wrongly.
func TestRowsThatLookLikeChance(t *testing.T) {
	procs := []int{0, 1, 2, 31, 62, 63}
	for seed := range 24 {
		d := turned(seed)
		h, m := New(), &told{}
		for k := range 120 {
			p := procs[d.below(seed%len(procs)+1)]
			c := next(m, p, uint64(k/4+d.below(6)), k)
			switch d.below(10) {
			case 0:
				c.m.Seq += uint32(d.below(5)) - 2
			case 1:
				c.m.From = odd[d.below(len(odd))]
			case 2, 3:
				c = drop(p, m.low(p)+uint32(d.below(4)))
			case 4:
				c = drop(p, uint32(d.below(int(m.count(p))+3)))
			}
			do(t, h, m, c, "chance")
			if k%3 == 0 {
				same(t, h, m, "chance")
			}
		}
		same(t, h.Copy(), m, "chance, copied")
	}
}

// Many senders' messages; of each some are held, as they are while others lack them.
func TestManyAreHeldAndDropped(t *testing.T) {
	h := New()
	for seq := uint32(1); seq <= 3000; seq++ {
		for _, p := range []int{0, 7, 63} {
			if e := h.Put(message(p, seq, uint64(seq), int(seq)+p)); e != api.OK {
				t.Fatalf("Put of %d.%d = %d", p, seq, e)
			}
			if seq > 20 {
				h.Drop(p, seq-20)
			}
			low := max(seq, 20) - 20
			if h.Count(p) != seq || h.Low(p) != low {
				t.Fatalf("%d.%d: Count = %d, Low = %d", p, seq, h.Count(p), h.Low(p))
			}
			for _, n := range []uint32{low, low + 1, seq, seq + 1} {
				x, ok := h.Get(p, n)
				if held := n > low && n <= seq; ok != held || held && !equal(x, message(p, n, uint64(n), int(n)+p)) {
					t.Fatalf("%d.%d: Get of %d = %+v, %v", p, seq, n, x, ok)
				}
			}
			if c := cap(h.held[p]); c > 200 { // no more than some times what is held
				t.Fatalf("%d.%d: there is room for %d", p, seq, c)
			}
		}
	}
	if l := h.Above(api.Key{}); len(l) != 60 {
		t.Errorf("%d are held", len(l))
	}
}

// Many that are held are dropped one by one, by each number up to it.
func TestManyAreDroppedOneByOne(t *testing.T) {
	h := New()
	const n = 2000
	for seq := uint32(1); seq <= n; seq++ {
		h.Put(message(5, seq, uint64(n-seq), int(seq)))
	}
	c := h.Copy()
	for seq := uint32(1); seq <= n; seq++ {
		h.Drop(5, seq)
		_, gone := h.Get(5, seq)
		x, ok := h.Get(5, seq+1)
		if gone || ok != (seq < n) || ok && !equal(x, message(5, seq+1, uint64(n-seq-1), int(seq+1))) || h.Low(5) != seq || h.Count(5) != n {
			t.Fatalf("up to %d: %+v, %v, Low = %d", seq, x, ok, h.Low(5))
		}
	}
	if c.Low(5) != 0 || len(c.From(5, 0, n)) != n {
		t.Errorf("the copy: Low = %d", c.Low(5))
	}
}

// Near the greatest number the count and 1 goes round, where a row of calls doesn't come.
func TestNearTheGreatestNumber(t *testing.T) {
	const top = math.MaxUint32
	h := New()
	h.low[1] = top - 2
	for _, seq := range []uint32{0, 1, top - 2, top} {
		if e := h.Put(message(1, seq, 1, 1)); e != api.ErrOrder {
			t.Errorf("Put of %d = %d", seq, e)
		}
	}
	for _, seq := range []uint32{top - 1, top} {
		if e := h.Put(message(1, seq, 1, 1)); e != api.OK || h.Count(1) != seq {
			t.Errorf("Put of %d = %d, Count = %d", seq, e, h.Count(1))
		}
	}
	for _, seq := range []uint32{0, 1, top - 1, top} {
		if e := h.Put(message(1, seq, 1, 1)); e != api.ErrOrder {
			t.Errorf("at the end: Put of %d = %d", seq, e)
		}
	}
	for _, x := range []struct {
		seq  uint32
		want []string
	}{{0, []string{"1.4294967294", "1.4294967295"}}, {top - 2, []string{"1.4294967294", "1.4294967295"}}, {top - 1, []string{"1.4294967294", "1.4294967295"}}, {top, []string{"1.4294967295"}}} {
		if l := names(h.From(1, x.seq, 9)); !slices.Equal(l, x.want) {
			t.Errorf("From(1, %d, 9) = %v", x.seq, l)
		}
	}
	h.Drop(1, top-1)
	if x, ok := h.Get(1, top); !ok || x.Seq != top || h.Low(1) != top-1 {
		t.Errorf("Get = %+v, %v, Low = %d", x, ok, h.Low(1))
	}
	h.Drop(1, top)
	if _, ok := h.Get(1, top); ok || h.Low(1) != top || h.Count(1) != top || len(h.From(1, top, 9)) != 0 || len(h.From(1, 0, 9)) != 0 {
		t.Errorf("all dropped: Low = %d, Count = %d", h.Low(1), h.Count(1))
	}
}

// What is handed in and what is answered is nobody else's.

func TestWhatIsHandedInIsNotKept(t *testing.T) {
	h := New()
	for i, p := range []int{0, 1, 63, 64} { // the last one is none, and refused
		room := []uint32{10, 20, 30, 77, 78}
		m := message(p, 1, 5, i)
		m.Deps = room[:3]
		e := h.Put(m)
		if (e == api.OK) != (p < 64) || !slices.Equal(room, []uint32{10, 20, 30, 77, 78}) {
			t.Fatalf("Put of %d.1 = %d, and what was handed in is %v", p, e, room)
		}
		for k := range room { // whoever handed it in works on
			room[k] = 1000
		}
		if got, ok := h.Get(p, 1); ok && !slices.Equal(got.Deps, []uint32{10, 20, 30}) {
			t.Errorf("%d.1: %v", p, got.Deps)
		}
		for _, l := range [][]api.Message{h.From(p, 1, 1), h.Above(api.Key{}), h.Copy().From(p, 1, 1)} {
			spoil(l)
		}
		if !slices.Equal(room, []uint32{1000, 1000, 1000, 1000, 1000}) {
			t.Errorf("%d.1: what was answered is what was handed in: %v", p, room)
		}
	}
}

// Two that were put with the same Deps have their own.
func TestDepsAreNotSharedByTwo(t *testing.T) {
	deps := []uint32{1, 2, 3}
	h := New()
	for _, x := range []api.Message{{From: 1, Seq: 1, Deps: deps}, {From: 1, Seq: 2, Deps: deps}, {From: 0, Seq: 1, Stamp: 1, Deps: deps}} {
		h.Put(x)
	}
	for _, l := range [][]api.Message{h.From(1, 1, 9), h.Above(api.Key{From: -1})} {
		first := l[0].Deps[:cap(l[0].Deps)]
		for k := range first {
			first[k] = 99
		}
		for _, m := range l[1:] {
			if !slices.Equal(m.Deps, []uint32{1, 2, 3}) {
				t.Errorf("%d.%d: %v", m.From, m.Seq, m.Deps)
			}
		}
	}
}

// spoil: all that these lists have, and their spare room, is written over.
func spoil(l []api.Message) {
	for _, m := range l {
		for k := range m.Deps[:cap(m.Deps)] {
			m.Deps[:cap(m.Deps)][k] = 4000
		}
	}
	for k := range l[:cap(l)] {
		l[:cap(l)][k] = api.Message{Seq: 4000}
	}
}

func TestAnswersAreNewMemory(t *testing.T) {
	asks := []func(h *Hold) []api.Message{
		func(h *Hold) []api.Message { x, _ := h.Get(1, 3); return []api.Message{x} },
		func(h *Hold) []api.Message { return h.From(1, 3, 1) },
		func(h *Hold) []api.Message { return h.From(1, 0, 99) },
		func(h *Hold) []api.Message { return h.From(1, 4, 2) },
		func(h *Hold) []api.Message { return h.Above(api.Key{From: -1}) },
		func(h *Hold) []api.Message { return h.Above(api.Key{Stamp: 6, From: 1}) },
		func(h *Hold) []api.Message { return h.Copy().Above(api.Key{From: -1}) },
	}
	for i, one := range asks {
		for k, other := range asks {
			h, m := both(t, "new memory", puts(1, 7), puts(63, 3), []call{drop(1, 2)})
			was, a, b := state(h), one(h), other(h)
			want := deepCopy(b)
			spoil(a)
			if !alike(b, want) {
				t.Fatalf("the answers %d and %d share memory", i, k)
			}
			spoil(b)
			unchanged(t, h, was, fmt.Sprint("by the answers ", i, " and ", k))
			do(t, h, m, put(1, 8, 3), "behind spoilt answers")
			same(t, h, m, "behind spoilt answers")
		}
	}
}

// An answer's spare room isn't what a hold puts its next ones to.
func TestAnswersStayAsTheyAre(t *testing.T) {
	h, m := both(t, "answers stay", puts(1, 5), puts(63, 3))
	from, above, v := h.From(1, 2, 2), h.Above(api.Key{Stamp: 4}), h.Vector(64)
	x, _ := h.Get(1, 4)
	wantFrom, wantAbove, wantV, wantX := deepCopy(from), deepCopy(above), slices.Clone(v), deepCopy([]api.Message{x})
	for _, c := range []call{drop(1, 4), put(1, 6, 1), put(1, 7, 1), drop(63, 9), put(63, 4, 2), put(0, 1, 1), drop(1, 99)} {
		do(t, h, m, c, "answers stay")
	}
	if !alike(from, wantFrom) || !alike(above, wantAbove) || !slices.Equal(v, wantV) || !equal(x, wantX[0]) {
		t.Errorf("changed by what the hold did later: %v, %v, %v, %+v", names(from), names(above), v, x)
	}
}

func TestAVectorIsNewMemory(t *testing.T) {
	h, m := both(t, "a vector", puts(1, 3), puts(63, 1))
	v, w := h.Vector(64), h.Vector(64)
	for k := range v[:cap(v)] {
		v[:cap(v)][k] = 4000
	}
	if !slices.Equal(w, m.vector(64)) {
		t.Errorf("two vectors share memory: %v", w)
	}
	same(t, h, m, "behind a spoilt vector")
}

func TestACopySharesNoMemory(t *testing.T) {
	for _, first := range []string{"the copy", "what was copied"} {
		h, m := both(t, first, puts(1, 5), puts(63, 3), []call{drop(1, 2)})
		a, b := h, h.Copy()
		if first == "the copy" {
			a, b = b, a
		}
		for p := range a.held { // all that one has, its spare room too
			spoil(a.held[p])
		}
		same(t, b, m, first+" is spoilt")
	}
}

// What was dropped is kept nowhere, though messages behind it are.
func TestWhatWasDroppedIsKeptNoMore(t *testing.T) {
	h := New()
	for seq := uint32(1); seq <= 4; seq++ {
		h.Put(api.Message{From: 1, Seq: seq, Deps: make([]uint32, 1000)})
	}
	var deps []weak.Pointer[uint32]
	for _, m := range h.held[1] {
		deps = append(deps, weak.Make(&m.Deps[0]))
	}
	h.Drop(1, 2)
	runtime.GC()
	for i, w := range deps {
		if kept := w.Value() != nil; kept != (i >= 2) {
			t.Errorf("%d is kept: %v", i+1, kept)
		}
	}
	if x, ok := h.Get(1, 3); !ok || len(x.Deps) != 1000 {
		t.Errorf("Get(1, 3) = %v", ok)
	}
}
