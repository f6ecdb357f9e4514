package plan

import (
	"fmt"
	"go/ast"
	"go/parser"
	"go/token"
	"math"
	"slices"
	"testing"

	"consort/api"
	"consort/key"
	"consort/order"
	"consort/set"
)

// told: a plan as the chapter's words have it. It keeps the exchanges, and works out each answer anew from these.
type told struct {
	me int
	l  []api.Exchange
}

// fits: is there a plan?
func (m told) fits() bool {
	mine := false
	for i, x := range m.l {
		if x.Who < 0 || x.Who > 63 {
			return false
		}
		for _, y := range m.l[:i] {
			if y.Who == x.Who {
				return false
			}
		}
		mine = mine || x.Who == m.me
	}
	return mine
}

// companions: their exchanges, by rising numbers.
func (m told) companions() []api.Exchange {
	var old api.Conf
	for _, x := range m.l {
		if x.Who == m.me {
			old = x.Old
		}
	}
	out := slices.DeleteFunc(slices.Clone(m.l), func(x api.Exchange) bool { return x.Old.Epoch != old.Epoch || x.Old.Rep != old.Rep })
	slices.SortFunc(out, func(a, b api.Exchange) int { return a.Who - b.Who })
	return out
}

// at: the number at that place; 0 where there is none.
func at(l []uint32, q int) uint32 {
	if q < 0 || q >= len(l) {
		return 0
	}
	return l[q]
}

func (m told) whole(q int) uint32 {
	var most uint32
	if q < 0 || q > 63 {
		return 0
	}
	for _, x := range m.companions() {
		most = max(most, at(x.Count, q))
	}
	return most
}

func (m told) holder(q int) int {
	n := m.whole(q)
	for _, x := range m.companions() {
		if n != 0 && at(x.Count, q) == n {
			return x.Who
		}
	}
	return -1
}

// boundary: that key of the companions behind which none of the others comes.
func (m told) boundary() api.Key {
	for _, x := range m.companions() {
		last := true
		for _, y := range m.companions() {
			if y.Last.Stamp > x.Last.Stamp || y.Last.Stamp == x.Last.Stamp && y.Last.From > x.Last.From {
				last = false
			}
		}
		if last {
			return x.Last
		}
	}
	return api.Key{}
}

func (m told) lacks(count []uint32) []Gap {
	var out []Gap
	for q := range 64 {
		if n, all := at(count, q), m.whole(q); n < all {
			out = append(out, Gap{q, m.holder(q), n + 1, all})
		}
	}
	return out
}

// wholes: the whole counts of all processes.
func (m told) wholes() []uint32 {
	out := make([]uint32, 64)
	for q := range out {
		out[q] = m.whole(q)
	}
	return out
}

// counts: does that message?
func counts(wholes []uint32, x api.Message) bool {
	return x.From >= 0 && x.From <= 63 && x.Seq >= 1 && x.Seq <= wholes[x.From]
}

// says: do the rules say that the message i is given up, where these are?
func says(wholes []uint32, rest []api.Message, up []bool, i int) bool {
	x := rest[i]
	for k, y := range rest {
		if up[k] && y.From == x.From && y.Seq <= x.Seq {
			return true
		}
	}
	for p, n := range x.Deps {
		if p > 63 && n > 0 || p <= 63 && n > wholes[p] {
			return true
		}
		for k, y := range rest {
			if up[k] && y.From == p && n >= y.Seq {
				return true
			}
		}
	}
	return false
}

// keep: one after the other is given up, as long as the rules say so of one.
func (m told) keep(rest []api.Message) []api.Message {
	wholes, up := m.wholes(), make([]bool, len(rest))
	for {
		i := -1
		for k, x := range rest {
			if counts(wholes, x) && !up[k] && says(wholes, rest, up, k) {
				i = k
			}
		}
		if i < 0 {
			break
		}
		up[i] = true
	}
	var out []api.Message
	for k, x := range rest {
		if counts(wholes, x) && !up[k] {
			out = append(out, x)
		}
	}
	return out
}

// keepByLeast: what isn't in all sets that have all that the rules say of them.
func (m told) keepByLeast(rest []api.Message) []api.Message {
	wholes, least := m.wholes(), 1<<len(rest)-1
	for mask := range 1 << len(rest) {
		up := make([]bool, len(rest))
		for i := range up {
			up[i] = mask>>i&1 == 1
		}
		if closed(wholes, rest, up) {
			least &= mask
		}
	}
	var out []api.Message
	for i, x := range rest {
		if counts(wholes, x) && least>>i&1 == 0 {
			out = append(out, x)
		}
	}
	return out
}

// closed: do these have all that the rules say of them, and none that doesn't count?
func closed(wholes []uint32, rest []api.Message, up []bool) bool {
	for i, x := range rest {
		if up[i] && !counts(wholes, x) || !up[i] && counts(wholes, x) && says(wholes, rest, up, i) {
			return false
		}
	}
	return true
}

// The old configurations of these tests: of one epoch, of one representative, and none.
var (
	here    = api.Conf{Epoch: 3, Rep: 1}
	beside  = api.Conf{Epoch: 3, Rep: 2}
	behind  = api.Conf{Epoch: 4, Rep: 1}
	nowhere = api.Conf{}
)

// ex: an exchange.
func ex(who int, old api.Conf, last api.Key, count ...uint32) api.Exchange {
	return api.Exchange{Who: who, Old: old, Count: count, Last: last}
}

// have: one of here, of which nothing was delivered.
func have(who int, count ...uint32) api.Exchange { return ex(who, here, api.Key{}, count...) }

// k: a key.
func k(stamp uint64, from int) api.Key { return api.Key{Stamp: stamp, From: from} }

// message: one of these; its other fields differ from those of other ones.
func message(from int, seq uint32, deps ...uint32) api.Message {
	return api.Message{From: from, Seq: seq, Stamp: 10 + uint64(seq), Service: int(seq % 3), Deps: deps, Payload: fmt.Sprint("p", from, " ", seq)}
}

// deps: n places, of which one is as told, the others 0.
func deps(n, place int, seq uint32) []uint32 {
	out := make([]uint32, n)
	out[place] = seq
	return out
}

// odd: numbers that are no process; the lowest bits of some are those of one.
var odd = []int{math.MinInt, math.MinInt + 1, -1 << 32, -1<<32 + 1, -64, -63, -2, -1, 64, 65, 66, 127, 128, 256, 1 << 31, 1 << 32, 1<<32 + 1, math.MaxInt - 1, math.MaxInt}

// processes: all of them, and numbers that are none.
func processes() []int {
	out := slices.Clone(odd)
	for p := range 64 {
		out = append(out, p)
	}
	return out
}

// turned: numbers that look like chance, the same ones each time.
type turned uint64

func (d *turned) below(n int) int {
	*d = *d*6364136223846793005 + 1442695040888963407
	return int(uint64(*d) >> 33 % uint64(n))
}

// equal: are two messages the same in all fields?
func equal(a, b api.Message) bool {
	return a.From == b.From && a.Seq == b.Seq && a.Stamp == b.Stamp && a.Service == b.Service && a.Payload == b.Payload && slices.Equal(a.Deps, b.Deps)
}

// alike: are two lists of messages?
func alike(a, b []api.Message) bool { return slices.EqualFunc(a, b, equal) }

// names: sender and number of each of these.
func names(l []api.Message) []string {
	out := []string{}
	for _, m := range l {
		out = append(out, fmt.Sprint(m.From, ".", m.Seq, m.Deps))
	}
	return out
}

// made: the plan, which there is.
func made(t *testing.T, me int, l ...api.Exchange) (*Plan, told) {
	t.Helper()
	p, ok := New(me, l)
	if !ok || p == nil {
		t.Fatalf("New(%d, %v) = %v, %v", me, l, p, ok)
	}
	return p, told{me: me, l: l}
}

// same: whether p answers as m does, of who goes on and what they have; answers leave it as it is.
func same(t *testing.T, p *Plan, m told, what string) {
	t.Helper()
	was := *p
	var companions set.Set
	for _, x := range m.companions() {
		companions = companions.With(x.Who)
	}
	if p.Companions() != companions || p.Boundary() != m.boundary() {
		t.Fatalf("%s: %x, %v, want %x, %v", what, p.Companions(), p.Boundary(), companions, m.boundary())
	}
	for _, q := range []int{-1, 0, 1, 2, 3, 62, 63, 64, 65} {
		if p.Whole(q) != m.whole(q) || p.Holder(q) != m.holder(q) {
			t.Fatalf("%s: of %d: %d, %d, want %d, %d", what, q, p.Whole(q), p.Holder(q), m.whole(q), m.holder(q))
		}
	}
	for _, count := range [][]uint32{nil, {0, 9, 1}, m.wholes()} {
		if l := p.Lacks(count); !slices.Equal(l, m.lacks(count)) {
			t.Fatalf("%s: Lacks(%v) = %v, want %v", what, count, l, m.lacks(count))
		}
	}
	if *p != was {
		t.Fatalf("%s: answers changed the plan", what)
	}
}

// keeps: whether p keeps of these what m does, and leaves them and itself as they are.
func keeps(t *testing.T, p *Plan, m told, rest []api.Message, what string) {
	t.Helper()
	was, before := *p, copied(rest)
	for range 2 {
		if got, want := p.Keep(rest), m.keep(rest); !alike(got, want) {
			t.Fatalf("%s: Keep(%v) = %v, want %v", what, names(rest), names(got), names(want))
		}
	}
	if *p != was || !alike(rest, before) {
		t.Fatalf("%s: Keep changed the plan, or what it was handed", what)
	}
}

// copied: these, in memory of their own.
func copied(l []api.Message) []api.Message {
	out := slices.Clone(l)
	for i := range out {
		out[i].Deps = slices.Clone(out[i].Deps)
	}
	return out
}

// allOrders: f of each order of the numbers below n.
func allOrders(n int, f func(row []int)) {
	var next func(row []int)
	next = func(row []int) {
		if len(row) == n {
			f(row)
			return
		}
		for i := range n {
			if !slices.Contains(row, i) {
				next(append(slices.Clone(row), i))
			}
		}
	}
	next(nil)
}

// inOrder: these, in that order.
func inOrder[T any](l []T, row []int) []T {
	var out []T
	for _, i := range row {
		out = append(out, l[i])
	}
	return out
}

// P15.1: New, Companions, Whole, Boundary, Holder.

// 0 has 2 of 1's messages, 2 has 3, both of one old configuration: the whole count of 1 is 3, its holder 2; 0 lacks the number 3.
func TestTheExample(t *testing.T) {
	p, _ := made(t, 0, have(0, 0, 2), have(2, 0, 3))
	if p.Companions() != set.Of(0, 2) || p.Whole(1) != 3 || p.Holder(1) != 2 {
		t.Error(p.Companions(), p.Whole(1), p.Holder(1))
	}
	if l := p.Lacks([]uint32{0, 2}); !slices.Equal(l, []Gap{{Whom: 1, Holder: 2, From: 3, To: 3}}) {
		t.Error(l)
	}
}

func TestNewOfWhatIsNoListOfExchanges(t *testing.T) {
	all := []api.Exchange{}
	for p := range 64 {
		all = append(all, have(p, 1))
	}
	for _, x := range []struct {
		what string
		me   int
		l    []api.Exchange
		want bool
	}{
		{"no exchange, nil", 0, nil, false},
		{"no exchange, an empty list", 0, []api.Exchange{}, false},
		{"me alone", 0, all[:1], true},
		{"me alone, the greatest one", 63, all[63:], true},
		{"none of me", 0, all[1:2], false},
		{"none of me, but of all others", 5, slices.Concat(all[:5], all[6:]), false},
		{"all processes", 63, all, true},
		{"all processes, and one again", 3, slices.Concat(all, all[9:10]), false},
		{"all processes, and -1", 3, slices.Concat(all, []api.Exchange{have(-1)}), false},
		{"all processes, and 64", 3, slices.Concat(all, []api.Exchange{have(64)}), false},
		{"two of me", 0, []api.Exchange{have(0), have(0)}, false},
		{"two of me, that differ", 0, []api.Exchange{have(0, 1), ex(0, beside, k(3, 4), 2)}, false},
		{"two of another one", 0, []api.Exchange{have(1), have(0), have(1)}, false},
		{"two of another one, of other configurations", 0, []api.Exchange{ex(1, beside, k(0, 0)), have(0), ex(1, behind, k(0, 0))}, false},
		{"two of another one, of which one is here", 0, []api.Exchange{have(0), have(1), ex(1, behind, k(0, 0))}, false},
		{"-1 behind me", 0, []api.Exchange{have(0), have(-1)}, false},
		{"-1 ahead of me", 0, []api.Exchange{have(-1), have(0)}, false},
		{"64 behind me", 0, []api.Exchange{have(0), have(64)}, false},
		{"64 ahead of me", 0, []api.Exchange{have(64), have(0)}, false},
		{"-1 of another configuration", 0, []api.Exchange{have(0), ex(-1, beside, k(0, 0))}, false},
		{"64 of another configuration", 0, []api.Exchange{ex(64, beside, k(0, 0)), have(0)}, false},
		{"me is -1", -1, []api.Exchange{have(-1)}, false},
		{"me is 64", 64, []api.Exchange{have(64)}, false},
		{"me is 64, and another one is there", 64, []api.Exchange{have(0), have(64)}, false},
		{"me is -1, and isn't there", -1, []api.Exchange{have(0), have(1)}, false},
		{"me is 64, and isn't there", 64, []api.Exchange{have(0), have(1)}, false},
		{"me is 64 above one that is there", 65, []api.Exchange{have(0), have(1)}, false},
		{"the least and the greatest process", 0, []api.Exchange{have(63), have(0)}, true},
		{"of other configurations", 1, []api.Exchange{ex(63, beside, k(0, 0)), have(1), ex(0, nowhere, k(0, 0))}, true},
	} {
		p, ok := New(x.me, x.l)
		if ok != x.want || ok != (p != nil) || ok != (told{x.me, x.l}).fits() {
			t.Errorf("%s: %v, %v", x.what, p, ok)
		}
	}
}

// Any number that is no process, as a Who or as me, at any place.
func TestNoProcessHasAPlan(t *testing.T) {
	for _, who := range odd {
		for _, old := range []api.Conf{here, beside} {
			for i := range 3 {
				l := slices.Insert([]api.Exchange{have(0), have(1)}, i, ex(who, old, k(1, 1), 1))
				for _, me := range []int{0, 1, who, who & 63} {
					if p, ok := New(me, l); p != nil || ok {
						t.Errorf("%d at %d, me %d: %v", who, i, me, p)
					}
				}
			}
		}
		if p, ok := New(who, []api.Exchange{have(0), have(1)}); p != nil || ok {
			t.Errorf("me %d: %v", who, p)
		}
	}
}

// All lists of up to four of some numbers.
func TestListsOfSomeNumbers(t *testing.T) {
	some := []int{-1, 0, 1, 62, 63, 64}
	var next func(l []api.Exchange)
	next = func(l []api.Exchange) {
		for _, me := range some {
			p, ok := New(me, l)
			if m := (told{me, l}); ok != m.fits() || ok != (p != nil) {
				t.Fatalf("New(%d, %v) = %v, %v", me, l, p, ok)
			} else if ok {
				same(t, p, m, fmt.Sprint(me, " of ", l))
			}
		}
		for i := range some {
			if len(l) < 4 {
				next(append(slices.Clone(l), have(some[i], uint32(i), uint32(len(l)))))
			}
		}
	}
	next(nil)
}

func TestCompanions(t *testing.T) {
	l := []api.Exchange{ex(0, here, k(1, 0)), ex(9, beside, k(1, 0)), ex(2, behind, k(1, 0)), ex(3, nowhere, k(1, 0)), ex(63, here, k(1, 0)), ex(5, nowhere, k(1, 0)), ex(1, beside, k(1, 0)), ex(7, here, k(1, 0)), ex(8, api.Conf{Epoch: math.MaxUint64, Rep: math.MinInt}, k(1, 0)), ex(10, api.Conf{Epoch: 3, Rep: 1 + 1<<32}, k(1, 0)), ex(11, api.Conf{Epoch: 3 + 1<<32, Rep: 1}, k(1, 0))}
	for me, want := range map[int]set.Set{0: set.Of(0, 7, 63), 7: set.Of(0, 7, 63), 63: set.Of(0, 7, 63), 9: set.Of(1, 9), 1: set.Of(1, 9), 2: set.Of(2), 3: set.Of(3, 5), 5: set.Of(3, 5), 8: set.Of(8), 10: set.Of(10), 11: set.Of(11)} {
		p, m := made(t, me, l...)
		if p.Companions() != want {
			t.Errorf("of %d: %x, want %x", me, p.Companions(), want)
		}
		same(t, p, m, fmt.Sprint("of ", me))
	}
	var all []api.Exchange
	for p := range 64 {
		all = append(all, have(63-p))
	}
	if p, _ := made(t, 40, all...); p.Companions() != set.All(64) {
		t.Errorf("of all: %x", p.Companions())
	}
}

// The whole count is the greatest one of the companions' alone, whoever of them has it; what stands behind a Count's end is 0.
func TestWhole(t *testing.T) {
	long := func(n int, from uint32) []uint32 {
		out := make([]uint32, n)
		for i := range out {
			out[i] = from + uint32(i)
		}
		return out
	}
	for _, x := range []struct {
		what string
		l    []api.Exchange
		want map[int]uint32
	}{
		{"nothing", []api.Exchange{have(0)}, map[int]uint32{0: 0, 63: 0}},
		{"an empty Count", []api.Exchange{{Who: 0, Old: here, Count: []uint32{}}}, map[int]uint32{0: 0, 63: 0}},
		{"Counts of 0", []api.Exchange{have(0, 0, 0), have(1, 0)}, map[int]uint32{0: 0, 1: 0, 2: 0}},
		{"me alone", []api.Exchange{have(0, 4, 0, 7)}, map[int]uint32{0: 4, 1: 0, 2: 7, 3: 0}},
		{"mine are the greatest", []api.Exchange{have(0, 4, 3), have(1, 2, 2)}, map[int]uint32{0: 4, 1: 3}},
		{"another one's are", []api.Exchange{have(0, 4, 3), have(1, 5, 4)}, map[int]uint32{0: 5, 1: 4}},
		{"of each another one's", []api.Exchange{have(0, 4, 3, 1), have(1, 3, 4), have(2, 0, 0, 2, 1)}, map[int]uint32{0: 4, 1: 4, 2: 2, 3: 1}},
		{"a longer Count has less", []api.Exchange{have(0, 4), have(1, 3, 1)}, map[int]uint32{0: 4, 1: 1}},
		{"another configuration's is greater", []api.Exchange{have(0, 4), ex(1, beside, k(0, 0), 9, 9), ex(2, behind, k(0, 0), 9), ex(3, nowhere, k(0, 0), 9)}, map[int]uint32{0: 4, 1: 0}},
		{"the greatest number", []api.Exchange{have(0, 1, math.MaxUint32), have(1, math.MaxUint32-1, math.MaxUint32-1)}, map[int]uint32{0: math.MaxUint32 - 1, 1: math.MaxUint32}},
		{"63 places", []api.Exchange{have(0, long(63, 100)...)}, map[int]uint32{0: 100, 62: 162, 63: 0}},
		{"64 places", []api.Exchange{have(0, long(64, 100)...)}, map[int]uint32{0: 100, 62: 162, 63: 163}},
		{"65 places", []api.Exchange{have(0, long(65, 100)...)}, map[int]uint32{0: 100, 63: 163}},
		{"200 places", []api.Exchange{have(0, long(64, 100)...), have(9, long(200, 101)...)}, map[int]uint32{0: 101, 1: 102, 63: 164}},
	} {
		p, m := made(t, 0, x.l...)
		for q, n := range x.want {
			if p.Whole(q) != n {
				t.Errorf("%s: Whole(%d) = %d, want %d", x.what, q, p.Whole(q), n)
			}
		}
		for _, q := range odd {
			if p.Whole(q) != 0 || p.Holder(q) != -1 {
				t.Errorf("%s: of %d: %d, %d", x.what, q, p.Whole(q), p.Holder(q))
			}
		}
		same(t, p, m, x.what)
	}
}

// The holder is the least companion that has as many as anyone; nobody, where nobody has any.
func TestHolder(t *testing.T) {
	for _, x := range []struct {
		what string
		l    []api.Exchange
		want []int // of the processes from 0 on
	}{
		{"me alone", []api.Exchange{have(5, 1, 0, 2)}, []int{5, -1, 5, -1}},
		{"two of the same", []api.Exchange{have(5, 1, 2), have(3, 1, 2)}, []int{3, 3, -1}},
		{"two of the same, the other way round", []api.Exchange{have(3, 1, 2), have(5, 1, 2)}, []int{3, 3, -1}},
		{"three of the same", []api.Exchange{have(5, 1), have(3, 1), have(4, 1)}, []int{3}},
		{"the greater one has more", []api.Exchange{have(3, 1, 2), have(5, 2, 3)}, []int{5, 5}},
		{"two greater ones have more", []api.Exchange{have(3, 1), have(63, 2), have(5, 2)}, []int{5}},
		{"the lesser one has more", []api.Exchange{have(3, 2), have(5, 1)}, []int{3}},
		{"0 is one of the same", []api.Exchange{have(5, 2), have(0, 2), have(1, 2)}, []int{0}},
		{"0 has less", []api.Exchange{have(0, 1), have(5, 2)}, []int{5}},
		{"0 has none", []api.Exchange{have(0), have(5, 1)}, []int{5, -1}},
		{"none at all", []api.Exchange{have(5, 0, 0), have(0), have(1, 0)}, []int{-1, -1}},
		{"of oneself", []api.Exchange{have(5, 0, 0, 0, 0, 0, 4), have(0, 4)}, []int{0, -1, -1, -1, -1, 5}},
		{"the least one that has as many is of another configuration", []api.Exchange{have(5, 2), ex(0, beside, k(0, 0), 2), have(4, 2)}, []int{4}},
		{"the greatest count is of another configuration", []api.Exchange{have(5, 2), ex(6, behind, k(0, 0), 3), have(7, 2)}, []int{5}},
		{"the greatest number", []api.Exchange{have(5, math.MaxUint32), have(6, math.MaxUint32), have(4, math.MaxUint32-1)}, []int{5}},
	} {
		me := x.l[0].Who
		p, m := made(t, me, x.l...)
		for q, want := range x.want {
			if p.Holder(q) != want {
				t.Errorf("%s: Holder(%d) = %d, want %d", x.what, q, p.Holder(q), want)
			}
		}
		same(t, p, m, x.what)
	}
}

// One that holds one process's messages needn't hold another one's.
func TestHoldersOfAllSixtyFour(t *testing.T) {
	for _, by := range []int{1, 5, 63} {
		var l []api.Exchange
		for i := range 64 {
			p := i * 5 % 64
			count := make([]uint32, 64)
			for q := range count {
				count[q] = 7
			}
			count[p*by%64] = 8
			l = append(l, have(p, count...))
		}
		for me := range 64 {
			p, m := made(t, me, l...)
			for q := range 64 {
				if p.Whole(q) != 8 || p.Holder(q) != m.holder(q) || p.Holder(q)*by%64 != q {
					t.Fatalf("by %d, me %d: of %d: %d, %d, want 8, %d", by, me, q, p.Whole(q), p.Holder(q), m.holder(q))
				}
			}
		}
	}
}

func TestBoundary(t *testing.T) {
	for _, x := range []struct {
		what string
		last []api.Key
		want api.Key
	}{
		{"none delivered", []api.Key{{}, {}, {}}, k(0, 0)},
		{"me alone", []api.Key{k(5, 2)}, k(5, 2)},
		{"all the same", []api.Key{k(5, 2), k(5, 2), k(5, 2)}, k(5, 2)},
		{"mine is the last", []api.Key{k(5, 2), k(4, 3), {}}, k(5, 2)},
		{"another one's is", []api.Key{k(5, 2), k(4, 3), k(6, 0)}, k(6, 0)},
		{"of one stamp", []api.Key{k(5, 2), k(5, 1), k(5, 3)}, k(5, 3)},
		{"of one stamp, mine is the last", []api.Key{k(5, 63), k(5, 1), k(5, 3)}, k(5, 63)},
		{"one has delivered, me not", []api.Key{{}, k(1, 1)}, k(1, 1)},
		{"one has delivered of 0, me not", []api.Key{{}, k(0, 1), k(0, 0)}, k(0, 1)},
		{"the greatest stamp", []api.Key{k(math.MaxUint64-1, 63), k(math.MaxUint64, 0)}, k(math.MaxUint64, 0)},
		{"a stamp of 2^32 and less", []api.Key{k(1<<32, 0), k(1<<32-1, 63)}, k(1<<32, 0)},
		{"of what is no process, all ahead of none", []api.Key{k(0, -3), k(0, -1), k(0, -2)}, k(0, -1)},
		{"of what is no process, me alone", []api.Key{k(0, math.MinInt)}, k(0, math.MinInt)},
		{"of what is no process, behind all", []api.Key{k(3, 63), k(3, math.MaxInt), k(3, 64)}, k(3, math.MaxInt)},
	} {
		var l []api.Exchange
		for i, last := range x.last {
			l = append(l, ex(i, here, last))
		}
		// Others' keys play no part.
		others := []api.Exchange{ex(60, beside, k(math.MaxUint64, 63)), ex(61, behind, k(7, 7)), ex(62, nowhere, k(5, math.MaxInt))}
		for me := range x.last {
			for _, l := range [][]api.Exchange{l, slices.Concat(l, others), slices.Concat(others, l)} {
				p, m := made(t, me, l...)
				if p.Boundary() != x.want {
					t.Errorf("%s: of %d: %v, want %v", x.what, me, p.Boundary(), x.want)
				}
				same(t, p, m, x.what)
			}
		}
	}
}

// In whatever order the exchanges stand, the plan is the same.
func TestInAllOrders(t *testing.T) {
	l := []api.Exchange{ex(0, here, k(5, 1), 4, 2), ex(1, beside, k(99, 0), 9, 9, 9), ex(2, here, k(5, 0), 3, 3, 1), ex(5, here, k(4, 9), 4, 1, 1, 2), ex(63, here, k(5, 1), 1, 3, 0, 2), ex(3, beside, k(2, 2), 9, 9, 1)}
	for _, x := range l {
		first, m := made(t, x.Who, l...)
		allOrders(len(l), func(row []int) {
			p, _ := made(t, x.Who, inOrder(l, row)...)
			if *p != *first {
				t.Fatalf("me %d, in the order %v: another plan", x.Who, row)
			}
			same(t, p, m, fmt.Sprint("me ", x.Who, ", in the order ", row))
		})
	}
}

// All lists of three exchanges of a menu.
func TestAllListsOfAMenu(t *testing.T) {
	var menu []api.Exchange
	for _, old := range []api.Conf{here, beside} {
		for _, last := range []api.Key{{}, k(5, 1), k(5, 2)} {
			for _, count := range [][]uint32{nil, {0, 2}, {2, 1}, {2}} {
				menu = append(menu, ex(0, old, last, count...))
			}
		}
	}
	for i := range menu {
		for j := range menu {
			for n := range menu {
				l := []api.Exchange{menu[i], menu[j], menu[n]}
				l[0].Who, l[1].Who, l[2].Who = 3, 0, 63
				for _, me := range []int{3, 63} {
					p, m := made(t, me, l...)
					same(t, p, m, fmt.Sprint(me, " of ", l))
				}
			}
		}
	}
}

// P15.2: Lacks.

func TestLacks(t *testing.T) {
	l := []api.Exchange{have(0, 4, 2), have(2, 3, 3, 1), have(5, 4, 0, 1, math.MaxUint32), ex(1, beside, k(0, 0), 9, 9, 9, 9, 9)}
	a, b, c, d := Gap{0, 0, 1, 4}, Gap{1, 2, 1, 3}, Gap{2, 2, 1, 1}, Gap{3, 5, 1, math.MaxUint32}
	from := func(g Gap, n uint32) Gap { g.From = n; return g }
	for _, x := range []struct {
		what  string
		count []uint32
		want  []Gap
	}{
		{"nothing, nil", nil, []Gap{a, b, c, d}},
		{"nothing, an empty list", []uint32{}, []Gap{a, b, c, d}},
		{"nothing, of all", make([]uint32, 64), []Gap{a, b, c, d}},
		{"just the whole counts", []uint32{4, 3, 1, math.MaxUint32}, nil},
		{"just the whole counts, and nothing of all others", append([]uint32{4, 3, 1, math.MaxUint32}, make([]uint32, 60)...), nil},
		{"one more than these", []uint32{5, 4, 2, math.MaxUint32}, nil},
		{"the greatest numbers", []uint32{math.MaxUint32, math.MaxUint32, math.MaxUint32, math.MaxUint32, math.MaxUint32}, nil},
		{"one less than these", []uint32{3, 2, 0, math.MaxUint32 - 1}, []Gap{from(a, 4), from(b, 3), c, from(d, math.MaxUint32)}},
		{"two less than these", []uint32{2, 1, 0, math.MaxUint32 - 2}, []Gap{from(a, 3), from(b, 2), c, from(d, math.MaxUint32-1)}},
		{"one more of the first, one less of the second", []uint32{5, 2, 1, math.MaxUint32}, []Gap{from(b, 3)}},
		{"fewer places", []uint32{4, 3}, []Gap{c, d}},
		{"one place", []uint32{1}, []Gap{from(a, 2), b, c, d}},
		{"more of one of whom nobody has any", []uint32{4, 3, 1, math.MaxUint32, 7, 8}, nil},
		{"65 places", append([]uint32{4, 2, 1, math.MaxUint32}, make([]uint32, 61)...), []Gap{from(b, 3)}},
		{"200 places", append(append([]uint32{4, 3, 0, 9}, make([]uint32, 60)...), make([]uint32, 136)...), []Gap{c, from(d, 10)}},
	} {
		for _, me := range []int{0, 2, 5} {
			p, m := made(t, me, l...)
			was, before := *p, slices.Clone(x.count)
			for range 2 {
				if got := p.Lacks(x.count); !slices.Equal(got, x.want) || !slices.Equal(got, m.lacks(x.count)) {
					t.Errorf("%s: %v, want %v", x.what, got, x.want)
				}
			}
			if *p != was || !slices.Equal(x.count, before) {
				t.Errorf("%s: Lacks changed the plan, or what it was handed", x.what)
			}
		}
	}
}

// All counts of up to three places, against all whole counts.
func TestLacksOfAllSmallCounts(t *testing.T) {
	rows := func(n int) [][]uint32 {
		out := [][]uint32{nil}
		for i := 0; i < len(out); i++ {
			for v := range uint32(4) {
				if len(out[i]) < n {
					out = append(out, append(slices.Clone(out[i]), v))
				}
			}
		}
		return out
	}(3)
	for _, mine := range rows {
		p, m := made(t, 7, have(7, mine...), have(2, 2, 0, 1))
		for _, count := range rows {
			if got, want := p.Lacks(count), m.lacks(count); !slices.Equal(got, want) {
				t.Fatalf("of %v: Lacks(%v) = %v, want %v", mine, count, got, want)
			}
		}
	}
}

// Of all 64, rising; what stands from place 64 on plays no part, neither in exchanges nor in counts.
func TestLacksOfAllSixtyFour(t *testing.T) {
	wide := make([]uint32, 80)
	for q := range wide {
		wide[q] = 100 + uint32(q)
	}
	p, _ := made(t, 9, have(9, wide...))
	for n := range len(wide) + 1 {
		var want []Gap
		for q := n; q < 64; q++ {
			want = append(want, Gap{Whom: q, Holder: 9, From: 1, To: 100 + uint32(q)})
		}
		if got := p.Lacks(wide[:n]); !slices.Equal(got, want) {
			t.Errorf("of %d places: %v, want %v", n, got, want)
		}
	}
	short, _ := made(t, 9, have(9))
	if got := short.Lacks(nil); len(got) != 0 {
		t.Errorf("of none: %v", got)
	}
}

// P15.3: Keep.

// here4: an exchange of 0 by which the whole counts of 0, 1, 2, 40 and 63 are 4, 3, 1, the greatest number, and 2.
func here4() api.Exchange {
	count := make([]uint32, 64)
	count[0], count[1], count[2], count[40], count[63] = 4, 3, 1, math.MaxUint32, 2
	return have(0, count...)
}

func TestWhatCounts(t *testing.T) {
	p, m := made(t, 0, here4())
	for _, x := range []struct {
		what string
		one  api.Message
		want bool
	}{
		{"the first one", message(0, 1), true},
		{"one of some", message(0, 3), true},
		{"just the whole count", message(0, 4), true},
		{"one more", message(0, 5), false},
		{"many more", message(0, 1<<31), false},
		{"the greatest number", message(0, math.MaxUint32), false},
		{"the number 0", message(0, 0), false},
		{"the only one", message(2, 1), true},
		{"one more than the only one", message(2, 2), false},
		{"of one of whom nobody has any", message(3, 1), false},
		{"of such a one, 0", message(3, 0), false},
		{"of the last process", message(63, 2), true},
		{"of the last process, one more", message(63, 3), false},
		{"of the greatest whole count, just that", message(40, math.MaxUint32), true},
		{"of the greatest whole count, one less", message(40, math.MaxUint32-1), true},
		{"of the greatest whole count, 1", message(40, 1), true},
		{"of the greatest whole count, 0", message(40, 0), false},
		{"of -1", message(-1, 1), false},
		{"of 64", message(64, 1), false},
	} {
		if got := p.Keep([]api.Message{x.one}); len(got) == 1 != x.want || x.want && !equal(got[0], x.one) {
			t.Errorf("%s: %v", x.what, names(got))
		}
		keeps(t, p, m, []api.Message{x.one}, x.what)
		keeps(t, p, m, []api.Message{message(0, 1), x.one, message(1, 3)}, x.what)
	}
	for _, from := range odd {
		for _, seq := range []uint32{0, 1, 2, math.MaxUint32} {
			// Neither does one that doesn't count give up others.
			rest := []api.Message{message(from, seq, 9, 9), message(0, 1), message(from, seq), message(63, 2, 4, 3, 1)}
			if got := p.Keep(rest); !alike(got, []api.Message{rest[1], rest[3]}) {
				t.Errorf("of %d, the number %d: %v", from, seq, names(got))
			}
		}
	}
}

func TestKeep(t *testing.T) {
	type rest = []api.Message
	bad := []uint32{9, 9}
	for _, x := range []struct {
		what string
		rest rest
		want []int
	}{
		{"nothing, nil", nil, nil},
		{"nothing, an empty list", rest{}, nil},
		{"all that count", rest{message(0, 3), message(0, 4), message(1, 3), message(2, 1)}, []int{0, 1, 2, 3}},
		{"in whatever order they stand", rest{message(2, 1), message(0, 4), message(1, 3), message(0, 3), message(1, 1)}, []int{0, 1, 2, 3, 4}},
		{"some that don't count between", rest{message(0, 5), message(0, 4), message(3, 1), message(-1, 1), message(1, 3), message(0, 0)}, []int{1, 4}},
		{"one that lacks ahead", rest{message(0, 1), message(0, 4)}, []int{0, 1}},

		{"Deps of no places", rest{message(0, 1), {From: 1, Seq: 1, Deps: []uint32{}}}, []int{0, 1}},
		{"Deps of 0", rest{message(0, 1, 0, 0, 0, 0), message(1, 1, make([]uint32, 64)...)}, []int{0, 1}},
		{"just the whole counts", rest{message(0, 1, 4, 3, 1, 0)}, []int{0}},
		{"one less than these", rest{message(0, 1, 3, 2, 0, 0)}, []int{0}},
		{"one more of the first", rest{message(2, 1, 5, 3, 1)}, nil},
		{"one more of the second", rest{message(2, 1, 4, 4, 1)}, nil},
		{"one more of the third", rest{message(2, 1, 4, 3, 2)}, nil},
		{"one more of the third, which is the sender itself", rest{message(2, 1, 0, 0, 2)}, nil},
		{"of one of whom nobody has any", rest{message(2, 1, 4, 3, 1, 1)}, nil},
		{"the last place, just the whole count", rest{message(2, 1, deps(64, 63, 2)...)}, []int{0}},
		{"the last place, one more", rest{message(2, 1, deps(64, 63, 3)...)}, nil},
		{"the greatest number", rest{message(2, 1, deps(64, 0, math.MaxUint32)...)}, nil},
		{"the greatest number, which is the whole count", rest{message(2, 1, deps(64, 40, math.MaxUint32)...)}, []int{0}},
		{"places from 64 on, of 0", rest{message(2, 1, make([]uint32, 65)...), message(0, 1, append([]uint32{4, 3, 1}, make([]uint32, 197)...)...)}, []int{0, 1}},
		{"the place 64, above 0", rest{message(2, 1, deps(65, 64, 1)...), message(0, 1)}, []int{1}},
		{"the place 64, the greatest number", rest{message(2, 1, deps(65, 64, math.MaxUint32)...), message(0, 1)}, []int{1}},
		{"the place 65, above 0, though 1 has many", rest{message(2, 1, deps(66, 65, 1)...), message(0, 1)}, []int{1}},
		{"the place 199, above 0", rest{message(2, 1, deps(200, 199, 1)...), message(0, 1)}, []int{1}},
		{"the place 104, though 40 has many", rest{message(2, 1, deps(105, 104, 1)...), message(0, 1)}, []int{1}},

		{"just below one that is given up", rest{message(1, 2, bad...), message(0, 4, 0, 1)}, []int{1}},
		{"just one that is given up", rest{message(1, 2, bad...), message(0, 4, 0, 2)}, nil},
		{"one above one that is given up", rest{message(1, 2, bad...), message(0, 4, 0, 3)}, nil},
		{"likewise, which stands ahead of it", rest{message(0, 4, 0, 2), message(1, 2, bad...)}, nil},
		{"below all that are given up", rest{message(1, 1, bad...), message(0, 4, 0, 0)}, []int{1}},
		{"just below, in the last place", rest{message(63, 2, bad...), message(0, 4, deps(64, 63, 1)...)}, []int{1}},
		{"just that, in the last place", rest{message(63, 2, bad...), message(0, 4, deps(64, 63, 2)...)}, nil},
		{"of the greatest number, just below", rest{message(40, math.MaxUint32, bad...), message(0, 4, deps(64, 40, math.MaxUint32-1)...)}, []int{1}},
		{"of the greatest number, just that", rest{message(40, math.MaxUint32, bad...), message(0, 4, deps(64, 40, math.MaxUint32)...)}, nil},
		{"the least of two that are given up", rest{message(1, 3, bad...), message(1, 1, bad...), message(0, 4, 0, 1)}, nil},
		{"the least of two that are given up, the other way round", rest{message(1, 1, bad...), message(1, 3, bad...), message(0, 4, 0, 1)}, nil},
		{"below the least of two that are given up", rest{message(1, 3, bad...), message(1, 2, bad...), message(0, 4, 0, 1)}, []int{2}},

		{"a wrong one of the number 0 gives up none", rest{message(1, 0, bad...), message(1, 1), message(0, 4, 0, 3)}, []int{1, 2}},
		{"a wrong one above the whole count gives up none", rest{message(1, 4, bad...), message(1, 3), message(0, 4, 0, 3)}, []int{1, 2}},
		{"one of whom nobody has any gives up none", rest{message(3, 1, bad...), message(0, 4, 0, 3, 0, 0)}, []int{1}},

		{"the same sender's behind it", rest{message(1, 1), message(1, 2, bad...), message(1, 3)}, []int{0}},
		{"the same sender's behind it, that stand ahead", rest{message(1, 3), message(1, 2, bad...), message(1, 1)}, []int{2}},
		{"the same sender's behind the first", rest{message(1, 3), message(1, 2), message(1, 1, bad...), message(0, 1)}, []int{3}},
		{"only the sender's own", rest{message(0, 1, bad...), message(1, 2), message(2, 1), message(63, 1)}, []int{1, 2, 3}},
		{"one twice, both kept", rest{message(1, 2), message(0, 1), message(1, 2)}, []int{0, 1, 2}},
		{"one twice, the first given up", rest{message(1, 2, bad...), message(1, 1), message(1, 2)}, []int{1}},
		{"one twice, the second given up", rest{message(1, 2), message(1, 1), message(1, 2, bad...)}, []int{1}},
		{"one three times, of which one is given up", rest{message(1, 2), message(1, 2, bad...), message(1, 2)}, nil},

		{"a chain of senders", rest{message(2, 1, 5), message(1, 3, 0, 0, 1), message(0, 4, 0, 3), message(63, 2, 4), message(63, 1, 3)}, []int{4}},
		{"a chain of senders, falling", rest{message(63, 2, 4), message(0, 4, 0, 3), message(1, 3, 0, 0, 1), message(2, 1, 5), message(63, 1, 3)}, []int{4}},
		{"a chain by lesser numbers", rest{message(63, 1, 0, 3), message(1, 3), message(1, 2, 4), message(0, 4), message(0, 3, 9)}, nil},
		{"a chain by the same number", rest{message(63, 1, 0, 2), message(1, 2), message(1, 2, 4), message(0, 4, 9)}, nil},
		{"a chain of which the head counts not", rest{message(2, 2, 9), message(1, 3, 0, 0, 1), message(0, 4, 0, 3)}, []int{1, 2}},
		{"a chain by what isn't in rest", rest{message(1, 3), message(0, 4, 0, 2)}, []int{0, 1}},
		{"back to one's own first", rest{message(0, 1, 0, 1), message(1, 1, 2), message(0, 2, 9)}, nil},

		{"one that leans on itself", rest{message(0, 2, 2)}, []int{0}},
		{"one that leans on its own next", rest{message(0, 2, 3), message(0, 3)}, []int{0, 1}},
		{"one that leans on its own next, given up", rest{message(0, 2, 3), message(0, 3, 0, 4)}, nil},
		{"one that leans on itself, and more than there is", rest{message(0, 2, 2, 4)}, nil},
		{"a circle of two", rest{message(0, 1, 0, 1), message(1, 1, 1)}, []int{0, 1}},
		{"a circle of three", rest{message(0, 1, 0, 1), message(1, 1, 0, 0, 1), message(2, 1, 1)}, []int{0, 1, 2}},
		{"a circle of two by greater numbers", rest{message(0, 1, 0, 3), message(1, 1, 4), message(0, 4), message(1, 3)}, []int{0, 1, 2, 3}},
		{"two circles, of which one is given up", rest{message(0, 1, 0, 1), message(1, 1, 1), message(2, 1, deps(64, 63, 1)...), message(63, 1, 0, 0, 1, 1)}, []int{0, 1}},
		{"a circle of which one leans on more", rest{message(0, 1, 0, 1), message(1, 1, 0, 0, 1), message(2, 1, 1, 4)}, nil},
		{"a circle and one that leans on it", rest{message(0, 1, 0, 1), message(1, 1, 1), message(2, 1, 1, 1)}, []int{0, 1, 2}},
	} {
		p, m := made(t, 0, here4())
		if got := p.Keep(x.rest); !alike(got, inOrder(x.rest, x.want)) {
			t.Errorf("%s: %v, want %v", x.what, names(got), x.want)
		}
		keeps(t, p, m, x.rest, x.what)
		if len(x.rest) > 5 {
			continue
		}
		// In another order there is the same to keep.
		allOrders(len(x.rest), func(row []int) {
			keeps(t, p, m, inOrder(x.rest, row), fmt.Sprint(x.what, ", in the order ", row))
			if got := len(p.Keep(inOrder(x.rest, row))); got != len(x.want) {
				t.Errorf("%s, in the order %v: %d are kept", x.what, row, got)
			}
		})
	}
}

// All rests of up to four of a menu, against the least set of all that have what the rules say of them.
func TestAllRestsOfAMenu(t *testing.T) {
	menu := []api.Message{
		message(0, 1), message(0, 1, 0, 1), message(0, 2, 0, 2), message(0, 2, 0, 3), message(0, 3), message(1, 1, 1), message(1, 1, 2, 1), message(1, 2, 2, 0, 1), message(1, 0, 9), message(2, 1, 0, 1), message(2, 1, 1, 0, 1), message(2, 1, deps(65, 64, 1)...), message(-1, 1, 9),
	}
	p, m := made(t, 5, have(5, 2, 1), have(0, 1, 2), have(63, 0, 0, 1), ex(1, behind, k(9, 9), 9, 9, 9))
	var next func(rest []api.Message)
	next = func(rest []api.Message) {
		keeps(t, p, m, rest, "a menu")
		if got, want := p.Keep(rest), m.keepByLeast(rest); !alike(got, want) {
			t.Fatalf("Keep(%v) = %v, want %v", names(rest), names(got), names(want))
		}
		for i := range menu {
			if len(rest) < 4 {
				next(append(slices.Clone(rest), menu[i]))
			}
		}
	}
	next(nil)
}

// someRest: messages that look like chance, of the first so many processes, and some that don't count.
func someRest(d *turned, n, procs, seqs int) []api.Message {
	var out []api.Message
	for range n {
		l := make([]uint32, d.below(procs+2))
		for i := range l {
			if d.below(3) == 0 {
				l[i] = uint32(d.below(seqs))
			}
		}
		out = append(out, message(d.below(procs), uint32(d.below(seqs)), l...))
		switch d.below(20) {
		case 0:
			out[len(out)-1].From = odd[d.below(len(odd))]
		case 1:
			out[len(out)-1].Deps = append(l, make([]uint32, 70)...)
		}
	}
	return out
}

// someExchanges: exchanges that look like chance, of 0 and others; most of here.
func someExchanges(d *turned, procs, seqs int) []api.Exchange {
	l := []api.Exchange{have(0)}
	for p := 1; p < procs; p++ {
		switch d.below(4) {
		case 0, 1:
			l = append(l, have(p))
		case 2:
			l = append(l, ex(p, beside, k(0, 0)))
		}
	}
	for i := range l {
		l[i].Count = make([]uint32, d.below(procs+1))
		for q := range l[i].Count {
			l[i].Count[q] = uint32(d.below(seqs))
		}
		l[i].Last = k(uint64(d.below(4)), d.below(3))
		j := d.below(i + 1)
		l[i], l[j] = l[j], l[i]
	}
	return l
}

func TestRestsThatLookLikeChance(t *testing.T) {
	var d turned = 15
	kept, up := 0, 0
	for i := range 1500 {
		p, m := made(t, 0, someExchanges(&d, 6, 5)...)
		rest := someRest(&d, d.below(10), 5, 5)
		what := fmt.Sprint("the row ", i)
		same(t, p, m, what)
		keeps(t, p, m, rest, what)
		got, counted := p.Keep(rest), 0
		if want := m.keepByLeast(rest); !alike(got, want) {
			t.Fatalf("%s: Keep(%v) = %v, want %v", what, names(rest), names(got), names(want))
		}
		for _, x := range rest {
			if counts(m.wholes(), x) {
				counted++
			}
		}
		kept, up = kept+len(got), up+counted-len(got)
	}
	if kept < 500 || up < 500 {
		t.Errorf("%d kept and %d given up are too few", kept, up)
	}
	for i := range 60 {
		p, m := made(t, 0, someExchanges(&d, 20, 30)...)
		keeps(t, p, m, someRest(&d, 80, 20, 30), fmt.Sprint("the long row ", i))
	}
}

// Each of 64 senders leans on the next one's: where one leans on what nobody has, those up to it are given up, in whatever order they stand.
func TestChainsOfAllSixtyFour(t *testing.T) {
	count := slices.Repeat([]uint32{3}, 64)
	p, _ := made(t, 9, have(9, count...))
	var d turned = 1
	for _, end := range []int{-1, 0, 1, 31, 62, 63} {
		var l []api.Message
		for q := range 64 {
			l = append(l, message(q, 2, deps(64, (q+1)%64, 2)...))
		}
		if end >= 0 {
			l[end].Deps[5] = 4
			l[63].Deps = nil
		}
		if end == 63 {
			l[63].Deps = deps(65, 64, 1)
		}
		for turn := range 12 {
			row := slices.Clone(l)
			switch turn {
			case 0:
			case 1:
				slices.Reverse(row)
			default:
				for i := range row {
					j := d.below(i + 1)
					row[i], row[j] = row[j], row[i]
				}
			}
			var want []api.Message
			for _, m := range row {
				if m.From > end {
					want = append(want, m)
				}
			}
			if got := p.Keep(row); !alike(got, want) {
				t.Fatalf("up to %d, turn %d: %v, want %v", end, turn, names(got), names(want))
			}
		}
	}
}

// As many messages as 64 windows hold, of which each leans on the one that stands ahead of it: where the first one is given up, all are, one a round where they stand the other way round.
func TestALongChain(t *testing.T) {
	const n = api.MaxProcs * api.MaxWindow
	p, _ := made(t, 0, have(0, slices.Repeat([]uint32{api.MaxWindow}, api.MaxProcs)...))
	var l []api.Message
	for i := n - 1; i >= 0; i-- {
		l = append(l, message(i%64, uint32(1+i/64), deps(64, (i+1)%64, uint32(1+(i+1)/64))...))
	}
	for _, x := range []struct {
		first []uint32
		want  int
	}{{nil, n}, {deps(65, 64, 1), 0}, {deps(64, 9, api.MaxWindow+1), 0}} {
		l[0].Deps = x.first
		for range 2 {
			if got := p.Keep(l); len(got) != x.want {
				t.Errorf("where the first one leans on %v %d are kept", x.first, len(got))
			}
			slices.Reverse(l)
		}
	}
}

// All fields come as they were handed in.
func TestAllFieldsAreKept(t *testing.T) {
	p, _ := made(t, 0, here4())
	l := []api.Message{{From: 0, Seq: 1}, {From: 1, Seq: 2, Stamp: math.MaxUint64, Service: math.MinInt, Deps: []uint32{1, 0, 1}, Payload: "\x00\xff"}, {From: 63, Seq: 1, Stamp: 7, Service: 2, Deps: make([]uint32, 64), Payload: "x"}}
	if got := p.Keep(l); !alike(got, l) {
		t.Errorf("%+v, want %+v", got, l)
	}
}

// What is handed in is neither kept nor changed.

func TestWhatNewIsHandedMayBeChanged(t *testing.T) {
	room := func(l ...uint32) []uint32 { return append(l, 77, 78)[:len(l)] }
	l := append([]api.Exchange{ex(0, here, k(5, 1), room(4, 2)...), ex(1, beside, k(9, 0), room(9, 9, 9)...), ex(2, here, k(5, 0), room(3, 3, 1)...)}, have(44, 9))[:3]
	before := slices.Clone(l[:4])
	for i := range before {
		before[i].Count = slices.Clone(before[i].Count[:cap(before[i].Count)])
	}
	p, _ := made(t, 0, l...)
	q, ok := New(0, l)
	for i, x := range l[:4] {
		if y := before[i]; x.Who != y.Who || x.Old != y.Old || x.Last != y.Last || !slices.Equal(x.Count[:cap(x.Count)], y.Count) {
			t.Errorf("New changed the exchange %d", i)
		}
	}
	if _, ok := New(7, l); ok {
		t.Error("none of 7")
	}
	kept := told{0, slices.Clone(l)}
	for i := range kept.l {
		kept.l[i].Count = slices.Clone(l[i].Count)
	}
	for i := range l {
		for j := range l[i].Count {
			l[i].Count[j] = 50
		}
		l[i] = ex(i+40, behind, k(88, 8), 60, 60, 60, 60)
	}
	same(t, p, kept, "what was handed in was changed")
	if same(t, q, kept, "likewise"); !ok {
		t.Error("no plan")
	}
	keeps(t, p, kept, []api.Message{message(0, 4), message(0, 5), message(1, 3, 4, 3, 1), message(2, 1, 5)}, "likewise")
}

func TestWhatKeepIsHandedMayBeChanged(t *testing.T) {
	p, _ := made(t, 0, here4())
	shared := append(make([]uint32, 0, 9), 1, 2, 0, 5)[:3]
	l := append([]api.Message{message(0, 1, shared...), message(63, 1, 9), message(2, 1, 0, 0, 0)}, message(63, 9))[:3]
	l[0].Deps, l[2].Deps = shared, shared // one list in two of them
	before := copied(l[:4])
	got := p.Keep(l)
	want := copied([]api.Message{l[0], l[2]})
	if !alike(got, want) {
		t.Fatalf("%v, want %v", names(got), names(want))
	}
	other := p.Keep(l)
	_ = append(got, message(9, 9)) // into its own spare room alone
	for i := range got {
		_ = append(got[i].Deps, 99)
		for j := range got[i].Deps {
			got[i].Deps[j] += 10 + uint32(i)
		}
	}
	if !alike(l[:4], before) || !slices.Equal(shared[:4], []uint32{1, 2, 0, 5}) {
		t.Errorf("an answer's change changes what was handed in: %v", names(l[:4]))
	}
	if !alike(other, want) {
		t.Errorf("an answer's change changes another one: %v", names(other))
	}
	for i := range got {
		if got[i].Deps[0] != 11+uint32(i) {
			t.Errorf("two lists of one answer share memory: %v", names(got))
		}
	}
	for i := range shared {
		shared[i] = 70
	}
	clear(l)
	if !alike(other, want) {
		t.Errorf("what was handed in is kept in an answer: %v", names(other))
	}
}

func TestWhatLacksAnswersIsNewMemory(t *testing.T) {
	p, m := made(t, 0, have(0, 1, 2, 3))
	was := *p
	a, b := p.Lacks(nil), p.Lacks(nil)
	for i := range a {
		a[i] = Gap{9, 9, 9, 9}
	}
	_ = append(a, Gap{8, 8, 8, 8})
	if !slices.Equal(b, m.lacks(nil)) || !slices.Equal(p.Lacks(nil), m.lacks(nil)) || *p != was {
		t.Errorf("an answer's change changes another one: %v", b)
	}
}

// Plans are of their own.
func TestPlansAreOfTheirOwn(t *testing.T) {
	a, m := made(t, 0, have(0, 4, 2), have(2, 1, 3))
	b, n := made(t, 0, ex(0, beside, k(7, 7), 1, 1, 1), have(2, 9, 9))
	same(t, a, m, "the first")
	same(t, b, n, "the second")
	rest := []api.Message{message(0, 2), message(1, 1), message(2, 1)}
	for range 2 {
		keeps(t, a, m, rest, "the first")
		keeps(t, b, n, rest, "the second")
		// What was given up of one rest plays no part in another.
		keeps(t, a, m, []api.Message{message(0, 1, 9)}, "the first")
	}
}

// P15.4: one plan of all companions, who keep the same, and none of whose own messages is given up.

// agree: whether two plans answer the same to all.
func agree(t *testing.T, a, b *Plan, d *turned, what string) {
	t.Helper()
	if a.Companions() != b.Companions() || a.Boundary() != b.Boundary() {
		t.Fatalf("%s: %x, %v and %x, %v", what, a.Companions(), a.Boundary(), b.Companions(), b.Boundary())
	}
	for _, q := range processes() {
		if a.Whole(q) != b.Whole(q) || a.Holder(q) != b.Holder(q) {
			t.Fatalf("%s: of %d: %d, %d and %d, %d", what, q, a.Whole(q), a.Holder(q), b.Whole(q), b.Holder(q))
		}
	}
	for range 3 {
		count := make([]uint32, d.below(9))
		for q := range count {
			count[q] = uint32(d.below(6))
		}
		if x, y := a.Lacks(count), b.Lacks(count); !slices.Equal(x, y) {
			t.Fatalf("%s: Lacks(%v) = %v and %v", what, count, x, y)
		}
		rest := someRest(d, 12, 7, 6)
		if x, y := a.Keep(rest), b.Keep(rest); !alike(x, y) {
			t.Fatalf("%s: Keep(%v) = %v and %v", what, names(rest), names(x), names(y))
		}
	}
}

func TestAllCompanionsAgree(t *testing.T) {
	var d turned = 4
	for i := range 200 {
		l := someExchanges(&d, 8, 6)
		mine, m := made(t, 0, l...)
		for _, x := range m.companions() {
			p, n := made(t, x.Who, l...)
			what := fmt.Sprint("the list ", i, ", 0 and ", x.Who)
			same(t, p, n, what)
			agree(t, mine, p, &d, what)
		}
	}
}

// An exchange more, of a process of another configuration, changes nothing.
func TestOneMoreOfAnotherConfiguration(t *testing.T) {
	var d turned = 5
	for i := range 100 {
		l := someExchanges(&d, 8, 6)
		for _, old := range []api.Conf{beside, behind, nowhere} {
			more := slices.Insert(slices.Clone(l), d.below(len(l)+1), ex(50, old, k(99, 9), 9, 9, 9, 9, 9, 9, 9, 9, 9))
			a, m := made(t, 0, l...)
			b, _ := made(t, 0, more...)
			agree(t, a, b, &d, fmt.Sprint("the list ", i, " of ", m.l))
		}
	}
}

// A companion more: the whole counts are what it has, where that is more; it holds what nobody below it holds; the boundary is the later one; no less is kept.
func TestOneMoreCompanion(t *testing.T) {
	var d turned = 6
	grown, moved, keptMore := 0, 0, 0
	for i := range 600 {
		l := someExchanges(&d, 8, 6)
		who, last := 8+d.below(3)*20, k(uint64(d.below(5)), d.below(3))
		x := ex(who, here, last, uint32(d.below(8)), uint32(d.below(8)), uint32(d.below(8)))
		for j := range l { // a lesser one than those that were there
			if l[j].Who != 0 && i%2 == 0 {
				l[j].Who += 20
			}
		}
		if i%2 == 0 {
			x.Who = 1 + d.below(7)
		}
		a, _ := made(t, 0, l...)
		b, m := made(t, 0, slices.Insert(slices.Clone(l), d.below(len(l)+1), x)...)
		what := fmt.Sprint("the list ", i)
		same(t, b, m, what)
		if b.Companions() != a.Companions().With(x.Who) || b.Boundary() != key.Last(a.Boundary(), last) {
			t.Fatalf("%s: %x, %v", what, b.Companions(), b.Boundary())
		}
		if b.Boundary() != a.Boundary() {
			moved++
		}
		for q := range 64 {
			n, holder := a.Whole(q), a.Holder(q)
			switch has := at(x.Count, q); {
			case has > n:
				n, holder = has, x.Who
				grown++
			case has == n && n > 0:
				holder = min(holder, x.Who)
			}
			if b.Whole(q) != n || b.Holder(q) != holder {
				t.Fatalf("%s: of %d: %d, %d, want %d, %d", what, q, b.Whole(q), b.Holder(q), n, holder)
			}
		}
		rest := someRest(&d, 12, 7, 6)
		less, more := a.Keep(rest), b.Keep(rest)
		if len(more) > len(less) {
			keptMore++
		}
		for _, y := range more {
			if len(less) > 0 && equal(y, less[0]) {
				less = less[1:]
			}
		}
		if len(less) > 0 {
			t.Fatalf("%s: one more gives up %v", what, names(less))
		}
	}
	if grown < 100 || moved < 100 || keptMore < 100 {
		t.Errorf("%d whole counts, %d boundaries and %d rests that grew are too few", grown, moved, keptMore)
	}
}

// heard: what one member tells another: a message, or how far it heard everybody, and that it sends nothing any more of its clock or less, but for so many.
type heard struct {
	m              api.Message
	promise, reach uint64
	sent           uint32
}

// ring: members that are honest, and what is under way between them; sent is all that each one sent.
type ring struct {
	members []int
	of      [64]*order.Order
	way     map[[2]int][]heard
	sent    map[int][]api.Message
}

func newRing(members ...int) *ring {
	r := &ring{members: members, way: map[[2]int][]heard{}, sent: map[int][]api.Message{}}
	for _, p := range members {
		r.of[p] = order.New(p, set.Of(members...))
	}
	return r
}

// tell: the others are told it, each sometime.
func (r *ring) tell(p int, h heard) {
	for _, q := range r.members {
		if q != p {
			r.way[[2]int{p, q}] = append(r.way[[2]int{p, q}], h)
		}
	}
}

// send: p sends one more, which leans on what it delivered.
func (r *ring) send(p int, service int) {
	o := r.of[p]
	m := api.Message{From: p, Seq: o.Count(p) + 1, Stamp: o.Stamp(), Service: service, Deps: o.Dones(64), Payload: fmt.Sprint(p)}
	o.Take(m)
	r.sent[p] = append(r.sent[p], m)
	r.tell(p, heard{m: m})
}

// hear: q hears the next of what p told.
func (r *ring) hear(t *testing.T, p, q int) {
	t.Helper()
	l := r.way[[2]int{p, q}]
	if len(l) == 0 {
		return
	}
	r.way[[2]int{p, q}] = l[1:]
	if h := l[0]; h.m.Seq == 0 {
		r.of[q].Promise(p, h.promise, h.sent)
		r.of[q].Reached(p, h.reach)
	} else if e := r.of[q].Take(h.m); e != api.OK {
		t.Fatalf("%d takes %v: %d", q, h.m, e)
	}
}

// run: so many steps that look like chance; what slow tells those that go on takes longer.
func (r *ring) run(t *testing.T, d *turned, steps, slow int, on []int) {
	t.Helper()
	for range steps {
		p, q := r.members[d.below(len(r.members))], r.members[d.below(len(r.members))]
		o := r.of[p]
		switch d.below(8) {
		case 0:
			r.send(p, d.below(3))
		case 1, 2:
			r.tell(p, heard{promise: o.Clock(), reach: o.All(), sent: o.Count(p)})
		case 3:
			for range d.below(6) {
				o.Next()
			}
		default:
			if p == slow && slices.Contains(on, q) && d.below(12) > 0 {
				continue
			}
			for range d.below(12) {
				r.hear(t, p, q)
			}
		}
	}
}

// exchanges: of those that go on.
func (r *ring) exchanges(on []int) []api.Exchange {
	var l []api.Exchange
	for _, p := range on {
		l = append(l, ex(p, here, r.of[p].Last(), r.of[p].Vector(64)...))
	}
	return l
}

// recover: p takes all that it lacks, of those that hold it.
func (r *ring) recover(t *testing.T, p int, plan *Plan, from *[64]*order.Order) {
	t.Helper()
	for _, g := range plan.Lacks(r.of[p].Vector(64)) {
		l := from[g.Holder].Hold.From(g.Whom, g.From, int(g.To-g.From)+1)
		if len(l) != int(g.To-g.From)+1 {
			t.Fatalf("%d lacks %v, and was handed %v", p, g, names(l))
		}
		for _, m := range l {
			if e := r.of[p].Take(m); e != api.OK {
				t.Fatalf("%d takes %v: %d", p, m, e)
			}
		}
	}
	if l := plan.Lacks(r.of[p].Vector(64)); len(l) != 0 {
		t.Fatalf("%d lacks %v", p, l)
	}
}

// behindKey: those of these that come behind it.
func behindKey(l []api.Message, last api.Key) []api.Message {
	return slices.DeleteFunc(slices.Clone(l), func(m api.Message) bool { return key.Compare(key.Of(m), last) <= 0 })
}

// Honest members, of whom some go on: they make one plan, get all of each other, and keep the same; of their own messages, and of what one of them delivered, none is given up.
func TestHonestMembers(t *testing.T) {
	var d turned = 7
	gaps, up, keptOthers := 0, 0, 0
	for i := range 1200 {
		r := newRing([]int{5, 63, 0, 40, 2, 17}[i%3:][:2+d.below(3+(2-i%3))]...)
		on := r.members[min(1, d.below(6))+d.below(len(r.members)-1):]
		r.run(t, &d, 40+d.below(300), r.members[0], on)
		l := append(r.exchanges(on), ex(30, beside, k(999, 3), 99, 99, 99))
		var from [64]*order.Order
		delivered := map[api.Key]bool{}
		for _, p := range on {
			from[p] = r.of[p].Copy()
			for _, q := range r.members {
				for _, m := range r.sent[q] {
					if m.Seq <= r.of[p].Done(q) {
						delivered[key.Of(m)] = true
					}
				}
			}
		}
		first, m := made(t, on[0], l...)
		same(t, first, m, fmt.Sprint("the ring ", i))
		var all []api.Message // that count
		for _, q := range r.members {
			all = append(all, r.sent[q][:first.Whole(q)]...)
		}
		all = key.Sort(all)
		kept := first.Keep(all)
		for _, p := range on {
			plan, _ := made(t, p, l...)
			agree(t, first, plan, &d, fmt.Sprint("the ring ", i))
			gaps += len(plan.Lacks(r.of[p].Vector(64)))
			r.recover(t, p, plan, &from)
			if got := plan.Keep(all); !alike(got, kept) {
				t.Fatalf("the ring %d: %d keeps %v, %d %v", i, p, names(got), on[0], names(kept))
			}
			mine, want := behindKey(plan.Keep(r.of[p].Rest()), plan.Boundary()), behindKey(kept, plan.Boundary())
			if !alike(mine, want) {
				t.Fatalf("the ring %d: behind the boundary %d keeps %v of its rest, want %v", i, p, names(mine), names(want))
			}
		}
		for _, x := range all {
			held := slices.ContainsFunc(kept, func(y api.Message) bool { return equal(x, y) })
			switch {
			case !held && (slices.Contains(on, x.From) || delivered[key.Of(x)]):
				t.Fatalf("the ring %d: of those that go on, %v: given up is %d.%d", i, on, x.From, x.Seq)
			case !held:
				up++
			case !slices.Contains(on, x.From) && !delivered[key.Of(x)]:
				keptOthers++
			}
		}
	}
	if gaps < 100 || up < 100 || keptOthers < 100 {
		t.Errorf("%d gaps, %d given up and %d kept of others are too few", gaps, up, keptOthers)
	}
}

// A companion's own message that leans on what it did, and on no more, is kept; one that leans on more is kept only if another one has that.
func TestOnesOwnMessages(t *testing.T) {
	l := []api.Exchange{have(0, 2, 1, 1), have(1, 2, 2, 0)}
	rest := []api.Message{message(2, 1), message(0, 1), message(1, 1, 1), message(0, 2, 1, 1, 1), message(1, 2, 2, 1)}
	for me := range 2 {
		p, m := made(t, me, l...)
		if got := p.Keep(rest); !alike(got, rest) {
			t.Errorf("of %d: %v", me, names(got))
		}
		wrong := append(copied(rest), message(1, 2, 3, 1))
		if got := p.Keep(wrong); !alike(got, rest[:4]) {
			t.Errorf("of %d: %v", me, names(got))
		}
		keeps(t, p, m, wrong, "one's own")
	}
	p, _ := made(t, 0, append(l, have(3, 3))...)
	if got := p.Keep(append(copied(rest), message(1, 2, 3, 1))); len(got) != 6 {
		t.Errorf("where 3 has more: %v", names(got))
	}
}

// What is given up is looked for again by goto a label.
func TestWays(t *testing.T) {
	f, err := parser.ParseFile(token.NewFileSet(), "plan.go", nil, 0)
	if err != nil {
		t.Fatal(err)
	}
	labels, gotos := map[string]int{}, 0
	ast.Inspect(f, func(n ast.Node) bool {
		switch x := n.(type) {
		case *ast.LabeledStmt:
			labels[x.Label.Name]++
		case *ast.BranchStmt:
			if x.Tok == token.GOTO && labels[x.Label.Name] > 0 { // back to one that stands above it
				gotos++
			}
		}
		return true
	})
	if gotos == 0 {
		t.Error("there is no goto back to a label")
	}
}
