package net

import (
	"math"
	"math/big"
	"slices"
	"strings"
	"testing"

	"consort/api"
	"consort/set"
)

// told: a net as the chapter's words have it. It keeps what was told, and works out each answer anew from that: two are linked, if no cut since the last Heal went between them.
type told struct {
	n    int
	cuts []uint64
	row  []way
}

// way: a datagram as it was sent, and what was done to it since: nothing, if mask is 0.
type way struct {
	sent  api.Datagram
	place int
	mask  byte
}

// now: the datagram as it stands there.
func (w way) now() api.Datagram {
	d := w.sent
	if w.mask != 0 {
		d.Data = d.Data[:w.place] + string([]byte{d.Data[w.place] ^ w.mask}) + d.Data[w.place+1:]
		d.Torn = true
	}
	return d
}

func (m *told) proc(p int) bool { return p >= 0 && p < m.n && p < 64 }

func (m *told) linked(p, q int) bool {
	if !m.proc(p) || !m.proc(q) {
		return false
	}
	for _, s := range m.cuts {
		if s>>p&1 != s>>q&1 {
			return false
		}
	}
	return true
}

func (m *told) send(d api.Datagram) api.Errno {
	if !m.proc(d.From) || !m.proc(d.To) {
		return 1
	}
	if !m.linked(d.From, d.To) {
		return 5
	}
	if len(m.row) >= 4096 {
		return 6
	}
	m.row = append(m.row, way{sent: d})
	return 0
}

func (m *told) there(i int) bool { return 0 <= i && i < len(m.row) }

func (m *told) at(i int) (api.Datagram, bool) {
	if !m.there(i) {
		return api.Datagram{}, false
	}
	return m.row[i].now(), true
}

func (m *told) drop(i int) bool {
	if !m.there(i) {
		return false
	}
	var row []way
	for j, w := range m.row {
		if j != i {
			row = append(row, w)
		}
	}
	m.row = row
	return true
}

func (m *told) take(i int) (api.Datagram, bool) {
	d, ok := m.at(i)
	if m.drop(i); !ok || !m.linked(d.From, d.To) {
		return api.Datagram{}, false
	}
	return d, true
}

func (m *told) double(i int) bool {
	if !m.there(i) || len(m.row) == 4096 {
		return false
	}
	m.row = append(m.row, m.row[i])
	return true
}

func (m *told) turn(i, at int, mask byte) bool {
	if !m.there(i) || mask == 0 || m.row[i].mask != 0 || m.row[i].sent.Torn || m.row[i].sent.Data == "" {
		return false
	}
	m.row[i].place, m.row[i].mask = place(at, len(m.row[i].sent.Data)), mask
	return true
}

func (m *told) copy() *told {
	return &told{n: m.n, cuts: slices.Clone(m.cuts), row: slices.Clone(m.row)}
}

// place: at, as a number of 64 bits without a sign, modulo n.
func place(at, n int) int {
	v := big.NewInt(int64(at))
	if at < 0 {
		v.Add(v, new(big.Int).Lsh(big.NewInt(1), 64))
	}
	return int(v.Mod(v, big.NewInt(int64(n))).Int64())
}

// sizes: how many processes nets are made of here.
var sizes = []int{math.MinInt, -1, 0, 1, 2, 3, 5, 62, 63, 64, 65, 1000, math.MaxInt}

// odd: numbers that are no process of any net.
var odd = []int{math.MinInt, -1 << 32, -64, -2, -1, 64, 65, 127, 128, 256, 1 << 32, math.MaxInt - 1, math.MaxInt}

// numbers: of all processes there may be, and of what is none.
func numbers() []int {
	l := slices.Clone(odd)
	for p := range 64 {
		l = append(l, p)
	}
	return l
}

// sameLinks: whether n has the links of m, each of them asked for, and no other ones.
func sameLinks(t *testing.T, n *Net, m *told, what string) {
	t.Helper()
	l := numbers()
	for _, p := range l {
		for _, q := range l {
			if got, want := n.Linked(p, q), m.linked(p, q); got != want {
				t.Fatalf("%s: of %d, Linked(%d, %d) = %v, want %v", what, m.n, p, q, got, want)
			}
		}
	}
}

// sameRow: whether the datagrams of m are under way in n, in their order, and no other ones.
func sameRow(t *testing.T, n *Net, m *told, what string) {
	t.Helper()
	if n.Len() != len(m.row) {
		t.Fatalf("%s: Len() = %d, want %d", what, n.Len(), len(m.row))
	}
	for i, w := range m.row {
		if d, ok := n.At(i); d != w.now() || !ok {
			t.Fatalf("%s: At(%d) = %#v, %v, want %#v, true", what, i, d, ok, w.now())
		}
	}
	for _, i := range outside(n) {
		if d, ok := n.At(i); d != (api.Datagram{}) || ok {
			t.Fatalf("%s: At(%d) = %#v, %v of %d, want none, false", what, i, d, ok, n.Len())
		}
	}
}

// same: whether n answers as m does.
func same(t *testing.T, n *Net, m *told, what string) {
	t.Helper()
	sameLinks(t, n, m, what)
	sameRow(t, n, m, what)
}

// outside: numbers of which no datagram of n is.
func outside(n *Net) []int {
	return []int{math.MinInt, -4096, -2, -1, n.Len(), n.Len() + 1, n.Len() + 4096, math.MaxInt - 1, math.MaxInt}
}

// both: a net and what it was told, of so many processes, with a datagram of each of those texts; the i-th goes from i to i+1, modulo n.
func both(t *testing.T, n int, texts ...string) (*Net, *told) {
	t.Helper()
	x, m := New(n), &told{n: n}
	for i, s := range texts {
		send(t, x, m, api.Datagram{From: i % n, To: (i + 1) % n, Data: s})
	}
	return x, m
}

// send: d is sent in both, and both say the same.
func send(t *testing.T, x *Net, m *told, d api.Datagram) api.Errno {
	t.Helper()
	got, want := x.Send(d), m.send(d)
	if got != want {
		t.Fatalf("of %d, with %d under way: Send(%#v) = %v, want %v", m.n, len(m.row), d, got, want)
	}
	return got
}

// fill: sends till so many are under way, each with a text of its own.
func fill(t *testing.T, x *Net, m *told, size int) {
	t.Helper()
	for i := x.Len(); i < size; i++ {
		if e := send(t, x, m, api.Datagram{Data: string([]byte{byte(i >> 8), byte(i)})}); e != api.OK {
			t.Fatalf("the datagram %d: %v", i, e)
		}
	}
}

// P7.1: New and Linked.

func TestNewHasSoManyProcessesAllLinked(t *testing.T) {
	for _, n := range sizes {
		x, many := New(n), min(max(n, 0), 64)
		for _, p := range numbers() {
			for _, q := range numbers() {
				want := 0 <= p && p < many && 0 <= q && q < many
				if got := x.Linked(p, q); got != want {
					t.Fatalf("New(%d).Linked(%d, %d) = %v", n, p, q, got)
				}
			}
		}
	}
}

func TestNewIsWithoutDatagrams(t *testing.T) {
	for _, n := range sizes {
		same(t, New(n), &told{n: n}, "a new net")
	}
}

func TestNetsAreOfTheirOwn(t *testing.T) {
	x, y := New(3), New(3)
	x.Send(api.Datagram{From: 1, To: 2})
	x.Cut(1)
	same(t, y, &told{n: 3}, "a net beside another one")
}

// P7.1: Cut.

func TestCutOfTheExample(t *testing.T) {
	x := New(3)
	x.Cut(set.Of(0))
	if !x.Linked(1, 2) || !x.Linked(2, 1) || x.Linked(0, 1) || x.Linked(1, 0) || x.Linked(0, 2) || x.Linked(2, 0) {
		t.Error("between 0 and the others")
	}
	if !x.Linked(0, 0) || !x.Linked(1, 1) || !x.Linked(2, 2) {
		t.Error("each with itself")
	}
}

func TestCutByOneSet(t *testing.T) {
	for _, n := range sizes {
		for _, s := range []uint64{0, 1, 2, 3, 4, 5, 7, 8, 0x1F, 0x20, 0x55, 1 << 61, 1 << 62, 1 << 63, 3 << 62, 1<<62 | 1, 1<<63 | 1, 1<<63 - 1, 1<<64 - 2, 1<<64 - 1, 0x5555555555555555, 0xFFFFFFFF00000000} {
			x := New(n)
			x.Cut(set.Set(s))
			sameLinks(t, x, &told{n: n, cuts: []uint64{s}}, "cut once")
			x.Cut(set.Set(s))
			sameLinks(t, x, &told{n: n, cuts: []uint64{s}}, "cut twice by the same set")
			y := New(n)
			y.Cut(set.Set(^s))
			sameLinks(t, y, &told{n: n, cuts: []uint64{s}}, "cut by all others")
		}
	}
}

func TestCutByNoneByAllAndByOthersCutsNobodyOff(t *testing.T) {
	for _, n := range sizes {
		all := set.All(n)
		others := set.All(64).But(all)
		for _, s := range []set.Set{0, all, others, all.Any(others), set.Of(63).But(all), all.With(63), set.Of(n), all.With(n)} {
			x := New(n)
			x.Cut(s)
			sameLinks(t, x, &told{n: n}, "cut by what cuts nobody off")
		}
	}
}

func TestCutOfEachProcessAloneAndOfAllAhead(t *testing.T) {
	for _, n := range []int{1, 2, 5, 63, 64} {
		for p := range 64 {
			for _, s := range []uint64{1 << p, 1<<p - 1} {
				x := New(n)
				x.Cut(set.Set(s))
				sameLinks(t, x, &told{n: n, cuts: []uint64{s}}, "cut")
			}
		}
	}
}

// All rows of three cuts of a net of four processes, and of one that the net hasn't.
func TestCutsBehindOneAnother(t *testing.T) {
	l := []int{-1, 0, 1, 2, 3, 4, 5}
	for cuts := range 32 * 32 * 32 {
		x, m := New(4), &told{n: 4}
		for _, s := range []int{cuts & 31, cuts >> 5 & 31, cuts >> 10} {
			x.Cut(set.Set(s))
			m.cuts = append(m.cuts, uint64(s))
		}
		for _, p := range l {
			for _, q := range l {
				if got, want := x.Linked(p, q), m.linked(p, q); got != want {
					t.Fatalf("cuts %x: Linked(%d, %d) = %v", m.cuts, p, q, got)
				}
			}
		}
	}
}

func TestCutsOfGreatNets(t *testing.T) {
	for _, n := range []int{62, 63, 64} {
		x, m := New(n), &told{n: n}
		for _, s := range []uint64{0xFFFFFFFF00000000, 0xFFFF0000FFFF0000, 0, 1 << 63, 0xFF00FF00FF00FF00, 1<<64 - 1, 0xF0F0F0F0F0F0F0F0, 0xCCCCCCCCCCCCCCCC, 0xAAAAAAAAAAAAAAAA, 5} {
			x.Cut(set.Set(s))
			m.cuts = append(m.cuts, s)
			sameLinks(t, x, m, "a further cut")
		}
		for p := range n {
			if !x.Linked(p, p) || x.Linked(p, (p+1)%n) {
				t.Fatalf("all are alone: %d", p)
			}
		}
	}
}

// P7.1: Heal.

func TestHealLinksAllAndNoOthers(t *testing.T) {
	for _, n := range sizes {
		x := New(n)
		x.Heal()
		sameLinks(t, x, &told{n: n}, "healed, though nobody was cut off")
		x.Cut(1)
		x.Cut(0xAAAAAAAAAAAAAAAA)
		x.Cut(1 << 63)
		x.Heal()
		sameLinks(t, x, &told{n: n}, "healed")
		x.Cut(6)
		sameLinks(t, x, &told{n: n, cuts: []uint64{6}}, "cut again")
	}
}

func TestCutAndHealLeaveTheDatagramsAlone(t *testing.T) {
	x, m := both(t, 3, "a", "bb", "", "a")
	x.Turn(1, 1, 9)
	m.turn(1, 1, 9)
	x.Cut(1)
	sameRow(t, x, m, "cut")
	x.Cut(2)
	sameRow(t, x, m, "cut twice")
	x.Heal()
	sameRow(t, x, m, "healed")
}

// P7.2: Send.

func TestSendFromAndToProcessesAlone(t *testing.T) {
	for _, n := range sizes {
		x, m := New(n), &told{n: n}
		for _, p := range numbers() {
			for _, q := range []int{math.MinInt, -1, 0, 1, n - 1, n, 62, 63, 64, math.MaxInt, p} {
				want := api.ErrRange
				if p >= 0 && p < min(n, 64) && q >= 0 && q < min(n, 64) {
					want = api.OK
				}
				if e := send(t, x, m, api.Datagram{From: p, To: q, Data: "x"}); e != want {
					t.Fatalf("New(%d): Send from %d to %d: %v", n, p, q, e)
				}
			}
		}
		sameRow(t, x, m, "sent")
	}
}

func TestSendToThoseThatAreLinkedAlone(t *testing.T) {
	x, m := New(4), &told{n: 4, cuts: []uint64{3}}
	x.Cut(3)
	for p := range 4 {
		for q := range 4 {
			want := api.OK
			if p/2 != q/2 {
				want = api.ErrNone
			}
			if e := send(t, x, m, api.Datagram{From: p, To: q, Data: "x"}); e != want {
				t.Errorf("from %d to %d: %v", p, q, e)
			}
		}
	}
	sameRow(t, x, m, "sent while some are cut off")
	if n := x.Len(); n != 8 {
		t.Error("so many were sent:", n)
	}
	x.Heal()
	m.cuts = nil
	if e := send(t, x, m, api.Datagram{From: 0, To: 3}); e != api.OK {
		t.Error("healed:", e)
	}
	x.Cut(1)
	x.Cut(2)
	for p := range 3 {
		if e := x.Send(api.Datagram{From: p, To: p}); e != api.OK {
			t.Error("to itself, alone:", p, e)
		}
	}
}

func TestSendStandsBehindTheOthersAsItIs(t *testing.T) {
	x, m := New(3), &told{n: 3}
	for i, s := range []string{"", "a", "\x00", "\xff\x00\x80", "äöü", strings.Repeat("x", 255), strings.Repeat("\x00", api.MaxBody), strings.Repeat("y", 1<<20), "a", ""} {
		for _, torn := range []bool{false, true} {
			d := api.Datagram{From: i % 3, To: (i + 2) % 3, Data: s, Torn: torn}
			if e := send(t, x, m, d); e != api.OK {
				t.Fatalf("%v: %v", i, e)
			}
			if got, ok := x.At(x.Len() - 1); got != d || !ok {
				t.Fatalf("the datagram %d, Torn %v, isn't as it was sent", i, torn)
			}
		}
	}
	sameRow(t, x, m, "sent")
}

func TestSendTillTheNetIsFull(t *testing.T) {
	x, m := New(2), &told{n: 2}
	fill(t, x, m, 4095)
	if x.Len() != 4095 {
		t.Fatal(x.Len())
	}
	if e := send(t, x, m, api.Datagram{From: 1, Data: "the last one"}); e != api.OK {
		t.Fatal("the 4096th:", e)
	}
	for range 3 {
		if e := send(t, x, m, api.Datagram{From: 1, Data: "one more"}); e != api.ErrFull {
			t.Fatal("the 4097th:", e)
		}
	}
	same(t, x, m, "full")
	for _, i := range []int{4095, 0, 1000} {
		x.Drop(i)
		m.drop(i)
		if e := send(t, x, m, api.Datagram{To: 1, Data: "instead of another"}); e != api.OK {
			t.Fatal("where one was dropped:", e)
		}
		if e := send(t, x, m, api.Datagram{}); e != api.ErrFull {
			t.Fatal("full again:", e)
		}
	}
	if _, ok := x.Take(17); !ok || x.Send(api.Datagram{Data: "z"}) != api.OK || x.Send(api.Datagram{}) != api.ErrFull {
		t.Error("where one was taken")
	}
	if d, ok := x.At(4095); d.Data != "z" || !ok {
		t.Error(d, ok)
	}
}

func TestSendWhichErrorComesFirst(t *testing.T) {
	x, m := New(3), &told{n: 3}
	fill(t, x, m, 4096)
	x.Cut(1)
	m.cuts = []uint64{1}
	for _, c := range []struct {
		from, to int
		want     api.Errno
	}{
		{3, 0, api.ErrRange}, {0, 3, api.ErrRange}, {-1, 1, api.ErrRange}, {1, -1, api.ErrRange}, {3, 3, api.ErrRange}, {-1, -1, api.ErrRange}, {64, 64, api.ErrRange},
		{0, 1, api.ErrNone}, {1, 0, api.ErrNone}, {2, 0, api.ErrNone},
		{0, 0, api.ErrFull}, {1, 2, api.ErrFull}, {2, 2, api.ErrFull},
	} {
		if e := send(t, x, m, api.Datagram{From: c.from, To: c.to, Data: "x"}); e != c.want {
			t.Errorf("full and cut: from %d to %d: %v, want %v", c.from, c.to, e, c.want)
		}
	}
	same(t, x, m, "after what was refused")
	x.Heal()
	if e := x.Send(api.Datagram{From: 0, To: 1}); e != api.ErrFull {
		t.Error("full and healed:", e)
	}
	y := New(3)
	y.Cut(1)
	if e := y.Send(api.Datagram{From: 3, To: 0}); e != api.ErrRange {
		t.Error("cut, not full:", e)
	}
	if e := New(0).Send(api.Datagram{}); e != api.ErrRange {
		t.Error("of none:", e)
	}
}

func TestWhatIsRefusedChangesNothing(t *testing.T) {
	x, m := both(t, 3, "a", "b")
	x.Cut(4)
	m.cuts = []uint64{4}
	for _, d := range []api.Datagram{{From: 3}, {To: 3, Data: "x"}, {From: -1, To: -1, Torn: true}, {From: 2, To: 1, Data: "y"}, {From: 0, To: 2}} {
		if e := send(t, x, m, d); e == api.OK {
			t.Fatal(d, e)
		}
		same(t, x, m, "refused")
	}
}

// P7.2: Len and At.

func TestAtOfNumbersThatAreUnderWayAndOfOthers(t *testing.T) {
	x, m := New(2), &told{n: 2}
	for i, size := range []int{0, 1, 2, 3, 4095, 4096} {
		fill(t, x, m, size)
		sameRow(t, x, m, "sent")
		if x.Len() != size {
			t.Fatal(i, x.Len())
		}
		for range 2 { // an answer leaves the net as it is
			for j := range size {
				if d, ok := x.At(j); !ok || d != (api.Datagram{Data: string([]byte{byte(j >> 8), byte(j)})}) {
					t.Fatalf("At(%d) of %d = %#v, %v", j, size, d, ok)
				}
			}
		}
	}
}

func TestAtLeavesWhatIsUnderWayAlone(t *testing.T) {
	x, m := both(t, 2, "a", "b")
	d, _ := x.At(0)
	d.From, d.To, d.Data, d.Torn = 1, 1, "z", true
	same(t, x, m, "what At answered was changed")
	l := &api.Datagram{From: 1, To: 0, Data: "c"}
	send(t, x, m, *l)
	l.Data = "d"
	same(t, x, m, "what was sent was changed afterwards")
}

// P7.3: Take.

func TestTakeFromEachPlace(t *testing.T) {
	for n := 1; n <= 5; n++ {
		for i := range n {
			x, m := both(t, 3, strings.Split("abcde", "")[:n]...)
			want := m.row[i].sent
			m.drop(i)
			if d, ok := x.Take(i); d != want || !ok {
				t.Fatalf("Take(%d) of %d = %#v, %v", i, n, d, ok)
			}
			same(t, x, m, "taken")
		}
	}
}

func TestTakeOfAFullNet(t *testing.T) {
	x, m := New(2), &told{n: 2}
	fill(t, x, m, 4096)
	for _, i := range []int{4095, 4094, 0, 2000, 4091, 0, 1} {
		want, _ := m.take(i)
		if d, ok := x.Take(i); d != want || !ok {
			t.Fatalf("Take(%d) = %#v, %v, want %#v", i, d, ok, want)
		}
		sameRow(t, x, m, "taken of many")
	}
	for x.Len() > 0 {
		want, _ := m.take(len(m.row) / 2)
		if d, ok := x.Take(x.Len() / 2); d != want || !ok {
			t.Fatal(d, ok)
		}
	}
	if _, ok := x.Take(0); ok {
		t.Error("of an empty one")
	}
}

func TestOfNumbersThatAreNotUnderWayNothingIsDone(t *testing.T) {
	for _, size := range []int{0, 1, 3, 4096} {
		x, m := New(2), &told{n: 2}
		fill(t, x, m, size)
		for _, i := range outside(x) {
			if d, ok := x.Take(i); d != (api.Datagram{}) || ok {
				t.Errorf("Take(%d) of %d = %#v, %v", i, size, d, ok)
			}
			if x.Drop(i) {
				t.Errorf("Drop(%d) of %d", i, size)
			}
			if x.Double(i) {
				t.Errorf("Double(%d) of %d", i, size)
			}
			for _, at := range []int{math.MinInt, -1, 0, 1, math.MaxInt} {
				if x.Turn(i, at, 1) || x.Turn(i, at, 0) {
					t.Errorf("Turn(%d, %d) of %d", i, at, size)
				}
			}
			sameRow(t, x, m, "asked for a number that isn't there")
		}
		sameLinks(t, x, m, "asked for a number that isn't there")
	}
}

func TestTakeOfOneWhoseTwoWereCutOffSinceItWasSent(t *testing.T) {
	x, m := both(t, 3, "a", "b", "c", "d")
	x.Cut(1)
	m.cuts = []uint64{1}
	if d, ok := x.Take(0); d != (api.Datagram{}) || ok {
		t.Errorf("from 0 to 1 = %#v, %v", d, ok)
	}
	m.drop(0)
	same(t, x, m, "it isn't under way any more")
	if d, ok := x.Take(1); d != (api.Datagram{}) || ok {
		t.Errorf("from 2 to 0 = %#v, %v", d, ok)
	}
	m.drop(1)
	same(t, x, m, "nor is that one")
	if d, ok := x.Take(0); d != (api.Datagram{From: 1, To: 2, Data: "b"}) || !ok {
		t.Errorf("from 1 to 2 = %#v, %v", d, ok)
	}
	x.Heal()
	if d, ok := x.Take(0); d != (api.Datagram{From: 0, To: 1, Data: "d"}) || !ok {
		t.Errorf("from 0 to 1, healed ahead of it = %#v, %v", d, ok)
	}
	if x.Len() != 0 {
		t.Error(x.Len())
	}
}

func TestTakeOfOneToItselfAndOfATornOne(t *testing.T) {
	x := New(2)
	x.Send(api.Datagram{From: 1, To: 1, Data: "a"})
	x.Send(api.Datagram{From: 1, To: 0, Data: "b", Torn: true})
	x.Send(api.Datagram{From: 0, To: 0, Data: "c"})
	x.Turn(2, 0, 1)
	x.Cut(1)
	if d, ok := x.Take(0); d != (api.Datagram{From: 1, To: 1, Data: "a"}) || !ok {
		t.Error("to itself, cut off:", d, ok)
	}
	if d, ok := x.Take(1); d != (api.Datagram{Data: "b", Torn: true}) || !ok {
		t.Error("turned:", d, ok)
	}
	x.Heal()
	if d, ok := x.Take(0); d != (api.Datagram{From: 1, Data: "b", Torn: true}) || !ok {
		t.Error("sent as Torn:", d, ok)
	}
}

// P7.3: Drop.

func TestDropFromEachPlace(t *testing.T) {
	for n := 1; n <= 5; n++ {
		for i := range n {
			for _, cut := range []uint64{0, 1, 2, 4} {
				x, m := both(t, 3, strings.Split("abcde", "")[:n]...)
				x.Cut(set.Set(cut)) // whom it was to come to plays no part
				m.cuts = []uint64{cut}
				if !x.Drop(i) {
					t.Fatalf("Drop(%d) of %d, cut by %x", i, n, cut)
				}
				m.drop(i)
				same(t, x, m, "dropped")
			}
		}
	}
}

// P7.3: Double.

func TestDoubleStandsBehindAllOthers(t *testing.T) {
	for i := range 4 {
		for _, cut := range []uint64{0, 1, 3} {
			x, m := both(t, 3, "a", "", "ccc", "a")
			x.Turn(2, 1, 7)
			m.turn(2, 1, 7)
			x.Cut(set.Set(cut))
			m.cuts = []uint64{cut}
			for range 3 {
				if !x.Double(i) || !m.double(i) {
					t.Fatalf("Double(%d)", i)
				}
				same(t, x, m, "doubled")
			}
			if one, _ := x.At(i); one != m.row[6].now() {
				t.Fatal(one)
			}
		}
	}
}

func TestDoubleTillTheNetIsFull(t *testing.T) {
	x, m := both(t, 2, "a", "b", "c")
	for n := 3; n < 4096; n++ {
		if i := n * 7 % n / 2; !x.Double(i) || !m.double(i) || x.Len() != n+1 {
			t.Fatal("doubled:", n)
		}
	}
	if x.Len() != 4096 {
		t.Fatal(x.Len())
	}
	sameRow(t, x, m, "full")
	for _, i := range []int{0, 2, 4095} {
		if x.Double(i) {
			t.Errorf("Double(%d) of a full one", i)
		}
	}
	if e := x.Send(api.Datagram{}); e != api.ErrFull {
		t.Error("sent to a full one:", e)
	}
	sameRow(t, x, m, "full still")
	x.Drop(1)
	m.drop(1)
	if !x.Double(4094) || !m.double(4094) || x.Double(4094) {
		t.Error("where one was dropped")
	}
	same(t, x, m, "full again")
}

func TestDoubleBeforeTheLastPlaceIsTaken(t *testing.T) {
	x, m := New(2), &told{n: 2}
	fill(t, x, m, 4095)
	if !x.Double(4094) || !m.double(4094) || x.Double(4094) || x.Len() != 4096 {
		t.Error("the last place")
	}
	same(t, x, m, "full")
}

func TestADoubledOneAndItsFellowGoTheirOwnWays(t *testing.T) {
	x := New(2)
	x.Send(api.Datagram{To: 1, Data: "abc"})
	x.Double(0)
	if !x.Turn(0, 1, 3) {
		t.Fatal("Turn")
	}
	one, _ := x.At(0)
	two, _ := x.At(1)
	if one != (api.Datagram{To: 1, Data: "aac", Torn: true}) || two != (api.Datagram{To: 1, Data: "abc"}) {
		t.Error("the first one was turned:", one, two)
	}
	x.Double(0)
	if x.Turn(2, 0, 1) {
		t.Error("doubled of a turned one, and turned again")
	}
	if !x.Turn(1, 2, 1) {
		t.Error("its fellow may still be turned")
	}
	if d, _ := x.At(2); d != one {
		t.Error("doubled of a turned one:", d)
	}
	if d, _ := x.At(1); d.Data != "abb" || !d.Torn {
		t.Error("the second one was turned:", d)
	}
}

// P7.3: Turn.

func TestTurnByEachMaskAtEachPlace(t *testing.T) {
	for n := 1; n <= 9; n++ {
		s := "\x00\xff\x80aZ\x01\x7f\n ~"[:n]
		for at := range n {
			for mask := 1; mask < 256; mask++ {
				x := New(1)
				x.Send(api.Datagram{Data: s})
				b := []byte(s)
				b[at] ^= byte(mask)
				if d, _ := x.At(0); !x.Turn(0, at, byte(mask)) || d.Data != s {
					t.Fatalf("Turn(0, %d, %d) of %x", at, mask, s)
				}
				if d, ok := x.At(0); !ok || d != (api.Datagram{Data: string(b), Torn: true}) {
					t.Fatalf("%x turned at %d by %02x = %#v", s, at, mask, d)
				}
			}
		}
	}
}

// places: where texts of n bytes are turned here: inside and outside, at the edges of all widths.
func places(n int) []int {
	l := []int{0, 1, n - 2, n - 1, n, n + 1, 2*n - 1, 2 * n, -1, -2, -n + 1, -n, -n - 1, -2 * n, math.MinInt, math.MinInt + 1, math.MinInt + n, math.MaxInt - n, math.MaxInt - 1, math.MaxInt}
	for _, w := range []int{7, 8, 15, 16, 31, 32, 33, 47, 62} {
		for d := -2; d <= 2; d++ {
			l = append(l, 1<<w+d, -1<<w+d)
		}
	}
	return l
}

func TestTurnAtPlacesOutsideOfTheText(t *testing.T) {
	for _, n := range []int{1, 2, 3, 4, 5, 6, 7, 8, 9, 10, 16, 17, 31, 64, 100, 255, 256, 257, 1000, 32768} {
		s := strings.Repeat("consort.", n/8+1)[:n]
		for _, at := range places(n) {
			x := New(1)
			x.Send(api.Datagram{Data: s})
			if !x.Turn(0, at, 0x81) {
				t.Fatalf("Turn at %d of %d bytes", at, n)
			}
			b := []byte(s)
			b[place(at, n)] ^= 0x81
			if d, _ := x.At(0); d.Data != string(b) || !d.Torn {
				t.Fatalf("of %d bytes, turned at %d: not the one at %d", n, at, place(at, n))
			}
		}
	}
}

// A few places worked out by hand: 2^64 is 1 modulo 3, 6 modulo 10, and 0 modulo 8; 2^63 is 2 modulo 3.
func TestTurnAtKnownPlaces(t *testing.T) {
	for _, c := range []struct{ n, at, want int }{
		{1, 0, 0}, {1, 5, 0}, {1, -1, 0}, {1, math.MinInt, 0}, {1, math.MaxInt, 0},
		{3, 2, 2}, {3, 3, 0}, {3, 5, 2}, {3, -1, 0}, {3, -2, 2}, {3, -3, 1}, {3, -4, 0}, {3, math.MaxInt, 1}, {3, math.MinInt, 2},
		{8, 7, 7}, {8, 8, 0}, {8, -1, 7}, {8, -8, 0}, {8, -9, 7}, {8, math.MaxInt, 7}, {8, math.MinInt, 0},
		{10, 9, 9}, {10, 10, 0}, {10, -1, 5}, {10, -6, 0}, {10, -7, 9}, {10, math.MaxInt, 7}, {10, math.MinInt, 8},
	} {
		x := New(1)
		x.Send(api.Datagram{Data: strings.Repeat("\x00", c.n)})
		want := strings.Repeat("\x00", c.want) + "\x01" + strings.Repeat("\x00", c.n-c.want-1)
		if !x.Turn(0, c.at, 1) {
			t.Fatal(c)
		}
		if d, _ := x.At(0); d.Data != want {
			t.Errorf("of %d bytes, turned at %d: %x, want %x", c.n, c.at, d.Data, want)
		}
	}
}

func TestTurnLeavesAllOthersAlone(t *testing.T) {
	for i := range 5 {
		x, m := both(t, 3, "abc", "abc", "abc", "d", "abc")
		if !x.Turn(i, 0, 0xFF) || !m.turn(i, 0, 0xFF) {
			t.Fatal(i)
		}
		same(t, x, m, "turned")
	}
	x, m := New(1), &told{n: 1}
	fill(t, x, m, 4096)
	for _, i := range []int{0, 4095, 77} {
		if !x.Turn(i, -1, 1) || !m.turn(i, -1, 1) {
			t.Fatal(i)
		}
	}
	sameRow(t, x, m, "turned in a full one")
}

func TestTurnOfOneWhoseTwoAreCutOff(t *testing.T) {
	x, m := both(t, 2, "abc")
	x.Cut(1)
	m.cuts = []uint64{1}
	if !x.Turn(0, 1, 1) || !m.turn(0, 1, 1) {
		t.Error("links play no part")
	}
	same(t, x, m, "turned while cut off")
}

func TestTurnNeitherTwiceNorByNothingNorOfNothing(t *testing.T) {
	x, m := New(2), &told{n: 2}
	send(t, x, m, api.Datagram{To: 1, Data: "abc"})
	send(t, x, m, api.Datagram{To: 1, Data: "def", Torn: true})
	send(t, x, m, api.Datagram{To: 1})
	send(t, x, m, api.Datagram{To: 1, Torn: true})
	for _, at := range []int{math.MinInt, -1, 0, 2, 3, math.MaxInt} {
		if x.Turn(0, at, 0) {
			t.Error("by the mask 0, at", at)
		}
		for _, mask := range []byte{0, 1, 0x80, 0xFF} {
			for i := 1; i < 4; i++ {
				if x.Turn(i, at, mask) {
					t.Errorf("Turn(%d, %d, %d)", i, at, mask)
				}
			}
		}
	}
	same(t, x, m, "not turned")
	if !x.Turn(0, 1, 1) || !m.turn(0, 1, 1) {
		t.Fatal("once")
	}
	for mask := range 256 {
		for at := range 3 {
			if x.Turn(0, at, byte(mask)) {
				t.Fatal("twice:", at, mask)
			}
		}
	}
	same(t, x, m, "turned once")
}

// P7.4: Copy.

// deed: something that is done to a net; it answers what was answered, in numbers.
type deed struct {
	name string
	real func(x *Net) (api.Datagram, int)
	told func(m *told) (api.Datagram, int)
}

// as: 1 of true, 0 of false.
func as(ok bool) int {
	if ok {
		return 1
	}
	return 0
}

func sends(d api.Datagram) deed {
	return deed{"Send", func(x *Net) (api.Datagram, int) { return api.Datagram{}, int(x.Send(d)) }, func(m *told) (api.Datagram, int) { return api.Datagram{}, int(m.send(d)) }}
}

func takes(i int) deed {
	return deed{"Take", func(x *Net) (api.Datagram, int) { d, ok := x.Take(i); return d, as(ok) }, func(m *told) (api.Datagram, int) { d, ok := m.take(i); return d, as(ok) }}
}

func drops(i int) deed {
	return deed{"Drop", func(x *Net) (api.Datagram, int) { return api.Datagram{}, as(x.Drop(i)) }, func(m *told) (api.Datagram, int) { return api.Datagram{}, as(m.drop(i)) }}
}

func doubles(i int) deed {
	return deed{"Double", func(x *Net) (api.Datagram, int) { return api.Datagram{}, as(x.Double(i)) }, func(m *told) (api.Datagram, int) { return api.Datagram{}, as(m.double(i)) }}
}

func turns(i, at int, mask byte) deed {
	return deed{"Turn", func(x *Net) (api.Datagram, int) { return api.Datagram{}, as(x.Turn(i, at, mask)) }, func(m *told) (api.Datagram, int) { return api.Datagram{}, as(m.turn(i, at, mask)) }}
}

func cuts(s uint64) deed {
	return deed{"Cut", func(x *Net) (api.Datagram, int) { x.Cut(set.Set(s)); return api.Datagram{}, 0 }, func(m *told) (api.Datagram, int) { m.cuts = append(m.cuts, s); return api.Datagram{}, 0 }}
}

func heals() deed {
	return deed{"Heal", func(x *Net) (api.Datagram, int) { x.Heal(); return api.Datagram{}, 0 }, func(m *told) (api.Datagram, int) { m.cuts = nil; return api.Datagram{}, 0 }}
}

// do: c is done to both, and both answer the same.
func do(t *testing.T, x *Net, m *told, c deed, what string) api.Datagram {
	t.Helper()
	got, e := c.real(x)
	want, f := c.told(m)
	if got != want || e != f {
		t.Fatalf("%s: %s = %#v, %d, want %#v, %d", what, c.name, got, e, want, f)
	}
	return got
}

// deeds: one of each kind, and a few more.
func deeds() []deed {
	return []deed{
		sends(api.Datagram{To: 1, Data: "ab"}), sends(api.Datagram{From: 1, To: 2, Data: "c"}), sends(api.Datagram{From: 2, To: 2}), sends(api.Datagram{From: 3}),
		takes(0), takes(1), drops(0), drops(2), doubles(0), doubles(1), turns(0, 1, 0x20), turns(1, -1, 0xFF), cuts(1), cuts(2), cuts(0), heals(),
	}
}

func TestACopyIsLikeWhatItWasCopiedOf(t *testing.T) {
	for _, n := range sizes {
		x := New(n)
		m := &told{n: n}
		same(t, x.Copy(), m, "of a new one")
		for i := range 10 {
			do(t, x, m, sends(api.Datagram{From: i, To: 2 * i, Data: strings.Repeat("x", i), Torn: i%3 == 0}), "filled")
		}
		do(t, x, m, cuts(0xF0F0F0F0F0F0F0F5), "filled")
		do(t, x, m, turns(1, 0, 1), "filled")
		y := x.Copy()
		same(t, y, m, "a copy")
		same(t, y.Copy(), m, "a copy of a copy")
		same(t, x, m, "what was copied")
		do(t, y, m.copy(), heals(), "a copy")
		sameLinks(t, y, &told{n: n}, "a copy healed")
		same(t, x, m, "what was copied, once its copy was healed")
	}
}

// Each deed is done to one of the two, at several lengths of the row: with spare room behind it, and without.
func TestACopyAndWhatItWasCopiedOfGoTheirOwnWays(t *testing.T) {
	for size := range 10 {
		for _, c := range deeds() {
			x, m := New(3), &told{n: 3}
			for i := range size {
				send(t, x, m, api.Datagram{From: i % 3, To: i % 2, Data: strings.Repeat("z", i%4)})
			}
			y := x.Copy()
			old := m.copy()
			do(t, x, m, c, "what was copied")
			same(t, x, m, "what was copied, changed")
			same(t, y, old, "its copy, unchanged")
			m = old.copy()
			x = y.Copy()
			do(t, y, m, c, "a copy")
			same(t, y, m, "a copy, changed")
			same(t, x, old, "what was copied, unchanged")
		}
	}
}

func TestBothOfTwoThatWereOneAreSentTo(t *testing.T) {
	for size := range 20 {
		x, m := New(2), &told{n: 2}
		fill(t, x, m, size)
		y, o := x.Copy(), m.copy()
		for i := range 5 {
			send(t, x, m, api.Datagram{From: 1, Data: "to the one"})
			send(t, y, o, api.Datagram{To: 1, Data: "to the other"})
			do(t, x, m, doubles(i), "the one")
			do(t, y, o, doubles(2*i), "the other")
			do(t, x, m, turns(i, i, 1), "the one")
			do(t, y, o, turns(i, i, 2), "the other")
			do(t, y, o, drops(i), "the other")
		}
		same(t, x, m, "the one")
		same(t, y, o, "the other")
	}
}

func TestACopyOfAFullNet(t *testing.T) {
	x, m := New(2), &told{n: 2}
	fill(t, x, m, 4096)
	y, o := x.Copy(), m.copy()
	if send(t, y, o, api.Datagram{}) != api.ErrFull || y.Double(0) {
		t.Error("it is full too")
	}
	do(t, y, o, drops(7), "a copy")
	do(t, y, o, sends(api.Datagram{From: 1, Data: "x"}), "a copy")
	do(t, x, m, takes(4095), "what was copied")
	do(t, x, m, turns(7, 0, 1), "what was copied")
	same(t, x, m, "what was copied")
	same(t, y, o, "a copy")
}

// P7.1 to P7.4: rows of calls.

// All rows of four deeds, each net being a copy of the one ahead of it.
func TestAllShortRowsOfDeeds(t *testing.T) {
	menu := deeds()
	var walk func(x *Net, m *told, left int)
	walk = func(x *Net, m *told, left int) {
		for _, c := range menu {
			y, o := x.Copy(), m.copy()
			do(t, y, o, c, "in a row")
			sameRow(t, y, o, "in a row")
			for p := -1; p < 4; p++ {
				for q := -1; q < 4; q++ {
					if y.Linked(p, q) != o.linked(p, q) {
						t.Fatalf("cut by %x: Linked(%d, %d) = %v", o.cuts, p, q, y.Linked(p, q))
					}
				}
			}
			if left > 1 {
				walk(y, o, left-1)
			}
		}
		sameRow(t, x, m, "what was copied")
	}
	walk(New(3), &told{n: 3}, 4)
}

// chance: numbers that look like chance, the same ones each time.
type chance uint64

func (c *chance) below(n int) int {
	*c = *c*6364136223846793005 + 1442695040888963407
	return int(uint64(*c) >> 33 % uint64(n))
}

// text: of up to 12 bytes.
func (c *chance) text() string {
	b := make([]byte, c.below(13))
	for i := range b {
		b[i] = byte(c.below(256))
	}
	return string(b)
}

// number: most often of a datagram that is under way.
func (c *chance) number(n int) int {
	switch c.below(8) {
	case 0:
		return -1 - c.below(3)
	case 1:
		return n + c.below(3)
	}
	return c.below(n + 1)
}

// deed: something to be done to a net of n processes, with size datagrams under way.
func (c *chance) deed(n, size int) deed {
	switch k := c.below(20); {
	case k < 7:
		return sends(api.Datagram{From: c.below(n+2) - c.below(2), To: c.below(n+2) - c.below(2), Data: c.text(), Torn: c.below(9) == 0})
	case k < 10:
		return takes(c.number(size))
	case k < 12:
		return drops(c.number(size))
	case k < 14:
		return doubles(c.number(size))
	case k < 17:
		return turns(c.number(size), c.below(1<<30)*(1-2*c.below(2))<<c.below(34), byte(c.below(256)))
	case k < 19:
		return cuts(uint64(c.below(1<<31)) * uint64(c.below(1<<31)) << c.below(40))
	}
	return heals()
}

func TestLongRowsOfDeeds(t *testing.T) {
	for _, n := range []int{0, 1, 2, 3, 5, 63, 64} {
		for seed := range 8 {
			c := chance(100*n + seed)
			x, m := New(n), &told{n: n}
			for i := range 600 {
				do(t, x, m, c.deed(n, len(m.row)), "in a long row")
				sameRow(t, x, m, "in a long row")
				if i%100 == 99 {
					sameLinks(t, x, m, "in a long row")
					x, m = x.Copy(), m.copy()
				}
			}
		}
	}
}

// What comes has in front of its text the number of what was sent, which no turn touches; the rest is held against that.
func TestWhatComesWasSentAndAtMostOneByteIsAnotherOne(t *testing.T) {
	c := chance(7)
	x := New(4)
	var sent []api.Datagram
	came, torn := 0, 0
	for range 30000 {
		switch k := c.below(12); {
		case k < 4:
			d := api.Datagram{From: c.below(4), To: c.below(4), Data: string([]byte{byte(len(sent) >> 8), byte(len(sent))}) + c.text()}
			if x.Send(d) == api.OK {
				sent = append(sent, d)
			}
		case k < 7:
			d, ok := x.Take(c.below(x.Len() + 1))
			if !ok {
				continue
			}
			came++
			torn += as(d.Torn)
			comes(t, sent, d)
		case k == 7:
			x.Double(c.below(x.Len() + 1))
		case k < 10:
			turnBehindTwo(x, &c)
		case k == 10 && c.below(20) == 0:
			x.Cut(set.Set(c.below(16)))
		case k == 11 && c.below(3) == 0:
			x.Heal()
		}
	}
	if len(sent) < 1000 || came < 1000 || torn < 100 || torn > came-100 {
		t.Error("too little was done:", len(sent), came, torn)
	}
}

// comes: whether d is one that was sent, but for one byte at most, and for none if it isn't Torn.
func comes(t *testing.T, sent []api.Datagram, d api.Datagram) {
	t.Helper()
	i := int(d.Data[0])<<8 | int(d.Data[1])
	if i >= len(sent) || d.From != sent[i].From || d.To != sent[i].To || len(d.Data) != len(sent[i].Data) {
		t.Fatalf("%#v wasn't sent", d)
	}
	other := 0
	for j := range len(d.Data) {
		other += as(d.Data[j] != sent[i].Data[j])
	}
	if other != as(d.Torn) {
		t.Fatalf("%#v has %d bytes that are other ones than those of %#v", d, other, sent[i])
	}
}

// turnBehindTwo: a byte of one is turned, but none of its first two.
func turnBehindTwo(x *Net, c *chance) {
	i := c.below(x.Len() + 1)
	if d, ok := x.At(i); ok && len(d.Data) > 2 {
		x.Turn(i, 2+c.below(len(d.Data)-2), byte(c.below(256)))
	}
}

// Rule 4: the same was told, the same is answered.
func TestNetsThatWereToldTheSameAnswerTheSame(t *testing.T) {
	for seed := range 5 {
		c := chance(seed)
		x, y := New(5), New(5)
		x.Send(api.Datagram{Data: "gone"}) // what is gone leaves no trace
		x.Cut(21)
		x.Take(0)
		x.Heal()
		for range 2000 {
			deed := c.deed(5, x.Len())
			d, e := deed.real(x)
			if f, g := deed.real(y); f != d || g != e || x.Len() != y.Len() {
				t.Fatalf("%s: %#v, %d and %#v, %d", deed.name, d, e, f, g)
			}
		}
	}
}
