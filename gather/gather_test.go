package gather

import (
	"fmt"
	"go/ast"
	"go/parser"
	"go/token"
	"maps"
	"math"
	"reflect"
	"slices"
	"testing"

	"consort/api"
	"consort/set"
)

// call: an Add of x, or, where x is nil, a Ready of p.
type call struct {
	x *api.Exchange
	p int
}

// told: an attempt as the chapter's words have it. It keeps all that it was told, and works out each answer anew from that.
type told struct {
	id      api.Conf
	members []int // rising
	calls   []call
}

func newTold(id api.Conf, members set.Set) *told { return &told{id: id, members: list(members)} }

// list: which processes are in it, rising.
func list(s set.Set) []int {
	var out []int
	for p := range 64 {
		if uint64(s)>>p%2 == 1 {
			out = append(out, p)
		}
	}
	return out
}

// number: the set of these, of which each is there once, as a number.
func number(l []int) set.Set {
	var n uint64
	for _, p := range l {
		n += 1 << p
	}
	return set.Set(n)
}

// first: the place of p's first exchange among the calls; -1, if there is none.
func (m *told) first(p int) int {
	return slices.IndexFunc(m.calls, func(c call) bool { return c.x != nil && c.x.Who == p })
}

// behind: how many calls there were when all exchanges were there; -1, if they aren't.
func (m *told) behind() int {
	n := 0
	for _, p := range m.members {
		i := m.first(p)
		if i < 0 {
			return -1
		}
		n = max(n, i+1)
	}
	return n
}

func (m *told) told() bool { return m.behind() >= 0 }

// ready: was p, once it was told?
func (m *told) ready(p int) bool {
	n := m.behind()
	return n >= 0 && slices.ContainsFunc(m.calls[n:], func(c call) bool { return c.x == nil && c.p == p })
}

func (m *told) done() bool {
	for _, p := range m.members {
		if !m.ready(p) {
			return false
		}
	}
	return m.told()
}

func (m *told) waits() []int {
	return slices.DeleteFunc(slices.Clone(m.members), func(p int) bool {
		if m.told() {
			return m.ready(p)
		}
		return m.first(p) >= 0
	})
}

func (m *told) exchanges() []api.Exchange {
	var out []api.Exchange
	for _, p := range m.members {
		if i := m.first(p); i >= 0 {
			out = append(out, *m.calls[i].x)
		}
	}
	return out
}

// take: c comes; what is answered, and whether anything comes of it.
func (m *told) take(c call) (answer, comes bool) {
	who := c.p
	if c.x != nil {
		who = c.x.Who
	}
	comes = slices.Contains(m.waits(), who) && (c.x == nil) == m.told()
	m.calls = append(m.calls, c)
	if c.x != nil {
		return comes && m.told(), comes
	}
	return comes && m.done(), comes
}

func (m *told) copy() *told { return &told{m.id, m.members, slices.Clone(m.calls)} }

// String: the calls.
func (m *told) String() string {
	s := fmt.Sprint(m.id, " of ", m.members, ":")
	for _, c := range m.calls {
		s += " " + c.String()
	}
	return s
}

func (c call) String() string {
	if c.x != nil {
		return fmt.Sprint("+", c.x.Who)
	}
	return fmt.Sprint("!", c.p)
}

// exchange: one of that process; its other fields differ from those of other marks.
func exchange(who, mark int) api.Exchange {
	count := make([]uint32, mark%5, mark%5+2)
	for i := range count {
		count[i] = uint32(who*100 + mark*10 + i)
	}
	return api.Exchange{Who: who, Old: api.Conf{Epoch: uint64(mark), Rep: who}, Count: count, Last: api.Key{Stamp: uint64(who)<<32 + uint64(mark), From: mark}}
}

// add: an Add of such a one.
func add(who, mark int) call {
	x := exchange(who, mark)
	return call{x: &x}
}

// rdy: a Ready.
func rdy(p int) call { return call{p: p} }

// adds, readies: of each of these, in that order.
func adds(l ...int) []call {
	var out []call
	for _, p := range l {
		out = append(out, add(p, p%4+1))
	}
	return out
}

func readies(l ...int) []call {
	var out []call
	for _, p := range l {
		out = append(out, rdy(p))
	}
	return out
}

// tell: c is told to the attempt; what that answers.
func tell(a *Attempt, c call) bool {
	if c.x != nil {
		return a.Add(*c.x)
	}
	return a.Ready(c.p)
}

// equal: are two exchanges the same in all fields?
func equal(a, b api.Exchange) bool {
	return a.Who == b.Who && a.Old == b.Old && a.Last == b.Last && slices.Equal(a.Count, b.Count)
}

// alike: are two lists of exchanges?
func alike(a, b []api.Exchange) bool { return slices.EqualFunc(a, b, equal) }

// whos: of whom these are.
func whos(l []api.Exchange) []int {
	var out []int
	for _, x := range l {
		out = append(out, x.Who)
	}
	return out
}

// state: all that an attempt has, to be held against what it has later.
func state(a *Attempt) *Attempt {
	out := &Attempt{id: a.id, members: a.members, ready: a.ready, exchanges: map[int]api.Exchange{}}
	for p, x := range a.exchanges {
		x.Count = slices.Clone(x.Count)
		out.exchanges[p] = x
	}
	return out
}

// same: whether a answers as m does, and twice, since an answer leaves the attempt as it is.
func same(t *testing.T, a *Attempt, m *told, what string) {
	t.Helper()
	before, waits, exchanges := state(a), number(m.waits()), m.exchanges()
	for range 2 {
		if a.ID() != m.id || a.Members() != number(m.members) {
			t.Fatalf("%s: %v: ID() = %v, Members() = %x", what, m, a.ID(), a.Members())
		}
		if a.Told() != m.told() || a.Done() != m.done() || a.Waits() != waits {
			t.Fatalf("%s: %v: %v, %v, %v, want %v, %v, %v", what, m, a.Told(), a.Done(), list(a.Waits()), m.told(), m.done(), m.waits())
		}
		if l := a.Exchanges(); !alike(l, exchanges) {
			t.Fatalf("%s: %v: Exchanges() = %v, want %v", what, m, l, exchanges)
		}
	}
	if !reflect.DeepEqual(a, before) {
		t.Fatalf("%s: %v: an answer changed the attempt", what, m)
	}
}

// take: both are told of c, and answer the same; where nothing comes of it, a is as it was.
func take(t *testing.T, a *Attempt, m *told, c call, what string) bool {
	t.Helper()
	ahead, before := m.String(), state(a)
	want, comes := m.take(c)
	got := tell(a, c)
	if got != want {
		t.Fatalf("%s: %s: %v = %v, want %v", what, ahead, c, got, want)
	}
	if !comes && !reflect.DeepEqual(a, before) {
		t.Fatalf("%s: %s: %v, of which nothing comes, changed the attempt", what, ahead, c)
	}
	return got
}

// both: an attempt and what it was told: these, each answer held against the other.
func both(t *testing.T, what string, members set.Set, row ...call) (*Attempt, *told) {
	t.Helper()
	id := api.Conf{Epoch: 5, Rep: 1}
	a, m := New(id, members), newTold(id, members)
	same(t, a, m, what+", at the beginning")
	for i, c := range row {
		take(t, a, m, c, what)
		same(t, a, m, fmt.Sprint(what, ", behind the call ", i))
	}
	return a, m
}

// odd: numbers that are no process; the lowest bits of some are those of one.
var odd = []int{math.MinInt, math.MinInt + 1, -1 << 32, -1<<32 + 1, -64, -63, -2, -1, 64, 65, 66, 127, 128, 256, 1 << 31, 1 << 32, 1<<32 + 1, math.MaxInt - 1, math.MaxInt}

// confs: names of all kinds.
var confs = []api.Conf{{}, {Epoch: 1}, {Epoch: 5, Rep: 1}, {Rep: 63}, {Rep: -1}, {Epoch: 5, Rep: 64}, {Epoch: math.MaxUint64, Rep: math.MaxInt}, {Epoch: 1 << 63, Rep: math.MinInt}}

// turned: numbers that look like chance, the same ones each time.
type turned uint64

func (d *turned) below(n int) int {
	*d = *d*6364136223846793005 + 1442695040888963407
	return int(uint64(*d) >> 33 % uint64(n))
}

// set: some processes, of which each is in it as one of n.
func (d *turned) set(n int) set.Set {
	var l []int
	for p := range 64 {
		if d.below(n) == 0 {
			l = append(l, p)
		}
	}
	return number(l)
}

// mixed: these, in another order.
func mixed[T any](d *turned, l []T) []T {
	out := slices.Clone(l)
	for i := range out {
		j := i + d.below(len(out)-i)
		out[i], out[j] = out[j], out[i]
	}
	return out
}

// allOrders: f of each order of l.
func allOrders[T any](l []T, f func(row []T)) {
	var next func(row, left []T)
	next = func(row, left []T) {
		if len(left) == 0 {
			f(row)
		}
		for i := range left {
			next(append(slices.Clone(row), left[i]), slices.Delete(slices.Clone(left), i, i+1))
		}
	}
	next(nil, l)
}

// P16.1: New, Add, Ready, Told, Done, Waits, Exchanges, ID, Members, Copy.

func TestTheExample(t *testing.T) {
	a := New(api.Conf{Epoch: 3}, set.Of(0, 1))
	if a.Add(exchange(0, 1)) || a.Told() || !a.Add(exchange(1, 1)) || !a.Told() {
		t.Error("Add")
	}
	if a.Ready(1) || a.Done() || !a.Ready(0) || !a.Done() {
		t.Error("Ready")
	}
}

func TestANewAttempt(t *testing.T) {
	sets := []set.Set{set.Of(0, 1), set.Of(1, 2, 4), set.Of(0, 63), set.All(63), set.All(64), set.All(64).Less(0)}
	for p := range 64 {
		sets = append(sets, set.Of(p))
	}
	for _, id := range confs {
		for _, s := range sets {
			a := New(id, s)
			if a.ID() != id || a.Members() != s || a.Told() || a.Done() || a.Waits() != s || len(a.Exchanges()) != 0 {
				t.Errorf("New(%v, %x): %v, %x, %v, %v, %x, %v", id, s, a.ID(), a.Members(), a.Told(), a.Done(), a.Waits(), a.Exchanges())
			}
			same(t, a, newTold(id, s), "a new attempt")
		}
	}
}

// Of nobody all exchanges are there, and all are ready.
func TestMembersOfNobody(t *testing.T) {
	for _, id := range confs {
		a := New(id, 0)
		for _, p := range append(list(set.All(64)), odd...) {
			if !a.Told() || !a.Done() || a.Waits() != 0 || len(a.Exchanges()) != 0 || a.ID() != id || a.Members() != 0 {
				t.Fatalf("%v of nobody: %v, %v, %x, %v", id, a.Told(), a.Done(), a.Waits(), a.Exchanges())
			}
			if a.Ready(p) || a.Add(exchange(p, 1)) || a.Ready(p) || a.Add(exchange(p, 1)) {
				t.Fatalf("%v of nobody: %d", id, p)
			}
		}
		same(t, a, newTold(id, 0), "of nobody")
	}
}

func TestMembersOfOne(t *testing.T) {
	for p := range 64 {
		for _, q := range []int{p - 1, p + 1, p ^ 1, p ^ 32, p + 64, p - 64} {
			both(t, "of one", set.Of(p), rdy(q), add(q, 1), rdy(p), add(p, 2), add(q, 1), rdy(q), add(p, 3), rdy(p), rdy(q), rdy(p))
		}
		a := New(api.Conf{}, set.Of(p))
		if a.Ready(p) || !a.Add(exchange(p, 1)) || a.Done() || a.Waits() != set.Of(p) || !a.Ready(p) || !a.Done() || a.Waits() != 0 {
			t.Errorf("of %d", p)
		}
	}
}

func TestMembersOfAll(t *testing.T) {
	var d turned
	for range 20 {
		a, m := both(t, "of all", set.All(64))
		order := mixed(&d, list(set.All(64)))
		for i, p := range order {
			if got := take(t, a, m, add(p, i), "of all"); got != (i == 63) {
				t.Fatalf("the exchange %d: %v", i, got)
			}
			if got := take(t, a, m, rdy(p), "of all"); got || i < 63 && a.Waits().Has(p) {
				t.Fatalf("ready %d, at the exchange %d: %v", p, i, got)
			}
		}
		same(t, a, m, "of all")
		last := order[63] // it was ready behind its exchange, with which all were there
		for i, p := range slices.Insert(mixed(&d, order[:63]), d.below(64), last) {
			if got := take(t, a, m, rdy(p), "of all"); got != (p != last && a.Waits() == 0) {
				t.Fatalf("the readiness %d: %v", i, got)
			}
		}
		same(t, a, m, "of all")
		if !a.Done() {
			t.Fatal("not done")
		}
	}
}

// step: a call, what it answers, and what holds behind it.
type step struct {
	c          call
	want       bool
	told, done bool
	waits      set.Set
	whos       []int
}

var rows = []struct {
	what    string
	members set.Set
	row     []step
}{
	{"two, in order", set.Of(0, 1), []step{
		{add(0, 1), false, false, false, set.Of(1), []int{0}},
		{add(1, 1), true, true, false, set.Of(0, 1), []int{0, 1}},
		{rdy(0), false, true, false, set.Of(1), []int{0, 1}},
		{rdy(1), true, true, true, 0, []int{0, 1}},
	}},
	{"three, turned about", set.Of(2, 5, 63), []step{
		{add(63, 1), false, false, false, set.Of(2, 5), []int{63}},
		{add(2, 1), false, false, false, set.Of(5), []int{2, 63}},
		{add(5, 1), true, true, false, set.Of(2, 5, 63), []int{2, 5, 63}},
		{rdy(5), false, true, false, set.Of(2, 63), []int{2, 5, 63}},
		{rdy(63), false, true, false, set.Of(2), []int{2, 5, 63}},
		{rdy(2), true, true, true, 0, []int{2, 5, 63}},
	}},
	{"ready too early", set.Of(0, 1), []step{
		{rdy(0), false, false, false, set.Of(0, 1), nil},
		{add(0, 1), false, false, false, set.Of(1), []int{0}},
		{rdy(0), false, false, false, set.Of(1), []int{0}},
		{rdy(1), false, false, false, set.Of(1), []int{0}},
		{add(1, 1), true, true, false, set.Of(0, 1), []int{0, 1}},
		{rdy(1), false, true, false, set.Of(0), []int{0, 1}},
		{rdy(0), true, true, true, 0, []int{0, 1}},
	}},
	{"twice", set.Of(0, 1), []step{
		{add(0, 1), false, false, false, set.Of(1), []int{0}},
		{add(0, 1), false, false, false, set.Of(1), []int{0}},
		{add(1, 1), true, true, false, set.Of(0, 1), []int{0, 1}},
		{add(1, 1), false, true, false, set.Of(0, 1), []int{0, 1}},
		{add(0, 2), false, true, false, set.Of(0, 1), []int{0, 1}},
		{rdy(0), false, true, false, set.Of(1), []int{0, 1}},
		{rdy(0), false, true, false, set.Of(1), []int{0, 1}},
		{add(0, 3), false, true, false, set.Of(1), []int{0, 1}},
		{rdy(1), true, true, true, 0, []int{0, 1}},
		{rdy(1), false, true, true, 0, []int{0, 1}},
		{rdy(0), false, true, true, 0, []int{0, 1}},
		{add(1, 4), false, true, true, 0, []int{0, 1}},
	}},
	{"of what is no member", set.Of(0, 2), []step{
		{add(1, 1), false, false, false, set.Of(0, 2), nil},
		{add(-1, 1), false, false, false, set.Of(0, 2), nil},
		{add(64, 1), false, false, false, set.Of(0, 2), nil},
		{add(2, 1), false, false, false, set.Of(0), []int{2}},
		{add(3, 1), false, false, false, set.Of(0), []int{2}},
		{add(0, 1), true, true, false, set.Of(0, 2), []int{0, 2}},
		{add(1, 1), false, true, false, set.Of(0, 2), []int{0, 2}},
		{rdy(1), false, true, false, set.Of(0, 2), []int{0, 2}},
		{rdy(-1), false, true, false, set.Of(0, 2), []int{0, 2}},
		{rdy(64), false, true, false, set.Of(0, 2), []int{0, 2}},
		{rdy(2), false, true, false, set.Of(0), []int{0, 2}},
		{rdy(3), false, true, false, set.Of(0), []int{0, 2}},
		{rdy(0), true, true, true, 0, []int{0, 2}},
		{rdy(1), false, true, true, 0, []int{0, 2}},
		{add(-1, 1), false, true, true, 0, []int{0, 2}},
	}},
	{"one alone", set.Of(7), []step{
		{rdy(7), false, false, false, set.Of(7), nil},
		{add(7, 1), true, true, false, set.Of(7), []int{7}},
		{add(7, 2), false, true, false, set.Of(7), []int{7}},
		{rdy(7), true, true, true, 0, []int{7}},
		{rdy(7), false, true, true, 0, []int{7}},
	}},
	{"nobody", 0, []step{
		{add(0, 1), false, true, true, 0, nil},
		{rdy(0), false, true, true, 0, nil},
	}},
}

func TestRows(t *testing.T) {
	for _, x := range rows {
		a, m := both(t, x.what, x.members)
		for i, s := range x.row {
			got := tell(a, s.c)
			if got != s.want || a.Told() != s.told || a.Done() != s.done || a.Waits() != s.waits || !slices.Equal(whos(a.Exchanges()), s.whos) {
				t.Fatalf("%s: the call %d, %v: %v, %v, %v, %v, %v, want %v", x.what, i, s.c, got, a.Told(), a.Done(), list(a.Waits()), whos(a.Exchanges()), s)
			}
			m.take(s.c)
			same(t, a, m, fmt.Sprint(x.what, ", behind the call ", i))
		}
	}
}

// Any number, at each stage: ahead of all, between exchanges, behind the last one, between readiness, and of a done attempt.
func TestAllNumbersAtEachStage(t *testing.T) {
	for _, members := range []set.Set{set.Of(0, 1, 2), set.Of(61, 62, 63), set.Of(0, 31, 32, 63), set.Of(1)} {
		l := list(members)
		row := append(adds(l...), readies(l...)...)
		for n := range len(row) + 1 {
			a, m := both(t, "a stage", members, row[:n]...)
			for _, p := range append(list(set.All(64)), odd...) {
				for _, c := range []call{add(p, 4), rdy(p)} {
					b, n := a.Copy(), m.copy()
					take(t, b, n, c, "any number")
					same(t, b, n, "any number")
				}
			}
		}
	}
}

// A member's second exchange is none, whatever stands in it, and whenever it comes.
func TestASecondExchange(t *testing.T) {
	first := exchange(2, 3)
	for i, other := range []api.Exchange{first, {Who: 2}, exchange(2, 4), {Who: 2, Count: slices.Repeat([]uint32{9}, 64)}, {Who: 2, Old: first.Old, Last: first.Last}} {
		row := []call{{x: &first}, add(1, 1), add(4, 1), rdy(2), rdy(4), rdy(1)}
		for n := 1; n <= len(row); n++ {
			a, m := both(t, "the first", set.Of(1, 2, 4), row[:n]...)
			before := state(a)
			if take(t, a, m, call{x: &other}, "the second") || !reflect.DeepEqual(a, before) {
				t.Fatalf("the second one %d, behind %d calls, came in", i, n)
			}
			for _, c := range row[n:] {
				take(t, a, m, c, "behind the second")
				same(t, a, m, "behind the second")
			}
			if !a.Done() || !equal(a.Exchanges()[1], first) {
				t.Fatalf("the second one %d, behind %d calls: %v", i, n, a.Exchanges())
			}
		}
	}
}

// However often somebody was ready ahead of the last exchange, it is so only behind that.
func TestReadyAheadOfTheLastExchange(t *testing.T) {
	members := []int{0, 3, 63}
	allOrders(members, func(row []int) {
		a, m := both(t, "too early", number(members))
		for _, p := range row {
			for range 2 {
				for _, q := range members {
					if take(t, a, m, rdy(q), "too early") || a.Waits().Has(q) != (m.first(q) < 0) {
						t.Fatalf("%v: ready %d too early", m, q)
					}
				}
			}
			take(t, a, m, add(p, 1), "too early")
			same(t, a, m, "too early")
		}
		if a.Waits() != number(members) || a.Done() {
			t.Fatalf("%v: %v", m, list(a.Waits()))
		}
	})
}

func TestExchangesRise(t *testing.T) {
	allOrders([]int{0, 1, 31, 32, 63}, func(row []int) {
		a, m := both(t, "rising", set.Of(0, 1, 31, 32, 63))
		for i, p := range row {
			take(t, a, m, add(p, i), "rising")
			if l := whos(a.Exchanges()); len(l) != i+1 || !slices.IsSorted(l) {
				t.Fatalf("%v: %v", row, l)
			}
			same(t, a, m, "rising")
		}
	})
}

// Who said it is all that an attempt looks at; the other fields are kept as they came.
func TestAllFieldsAreAnsweredAsTheyCame(t *testing.T) {
	odd := []api.Exchange{
		{Who: 0}, {Who: 1, Old: api.Conf{Epoch: math.MaxUint64}}, {Who: 2, Old: api.Conf{Rep: -1}}, {Who: 3, Old: api.Conf{Rep: math.MaxInt}}, {Who: 4, Count: []uint32{}},
		{Who: 5, Count: []uint32{0, math.MaxUint32}}, {Who: 6, Count: make([]uint32, 64)}, {Who: 7, Count: make([]uint32, 3000)}, {Who: 8, Last: api.Key{Stamp: math.MaxUint64}},
		{Who: 9, Last: api.Key{From: -1}}, {Who: 10, Last: api.Key{From: math.MinInt}}, {Who: 63, Old: api.Conf{Epoch: 1, Rep: 2}, Count: []uint32{3, 4}, Last: api.Key{Stamp: 5, From: 6}},
	}
	a := New(api.Conf{}, set.Of(whos(odd)...))
	for i, x := range slices.Backward(odd) {
		if a.Add(x) != (i == 0) {
			t.Fatal(x.Who)
		}
	}
	for range 2 {
		if l := a.Exchanges(); !alike(l, odd) {
			t.Errorf("%v", l)
		}
	}
}

// All rows of up to six calls of two menus, and of up to eight of a lesser one.
func TestAllRowsOfAMenu(t *testing.T) {
	for _, x := range []struct {
		members set.Set
		menu    []call
		most    int
	}{
		{set.Of(0, 1), []call{add(0, 1), add(0, 2), add(1, 3), add(2, 1), rdy(0), rdy(1), rdy(-1)}, 6},
		{set.Of(3, 63), []call{add(3, 1), add(63, 2), rdy(63)}, 8},
		{set.Of(0, 1, 2), []call{add(0, 1), add(1, 2), add(2, 3), rdy(0), rdy(1), rdy(2)}, 6},
	} {
		var next func(a *Attempt, m *told)
		next = func(a *Attempt, m *told) {
			same(t, a, m, "a menu")
			if len(m.calls) == x.most {
				return
			}
			for _, c := range x.menu {
				b, n := a.Copy(), m.copy()
				take(t, b, n, c, "a menu")
				next(b, n)
			}
		}
		next(both(t, "a menu", x.members))
	}
}

// chance: a call that looks like chance, of a member or of any other number.
func chance(d *turned, members set.Set) call {
	p := d.below(64)
	if l := list(members); len(l) > 0 && d.below(6) > 0 {
		p = l[d.below(len(l))]
	} else if d.below(4) == 0 {
		p = odd[d.below(len(odd))]
	}
	if d.below(2) == 0 {
		return rdy(p)
	}
	return add(p, d.below(50))
}

func TestRowsThatLookLikeChance(t *testing.T) {
	var d turned = 7
	done := 0
	for i := range 400 {
		members := d.set(1 + d.below(40))
		a, m := both(t, "chance", members)
		for range 10 + 6*len(m.members) {
			take(t, a, m, chance(&d, members), "chance")
			if d.below(8) == 0 {
				same(t, a, m, fmt.Sprint("chance ", i))
			}
		}
		same(t, a, m, fmt.Sprint("chance ", i))
		if a.Done() && len(m.members) > 1 {
			done++
		}
	}
	if done < 20 {
		t.Errorf("only %d of more than one were done", done)
	}
}

// What was handed in may be changed, and so may answers: the attempt has memory of its own.
func TestAnExchangeIsInMemoryOfItsOwn(t *testing.T) {
	spare := []uint32{1, 2, 3, 4}
	x := api.Exchange{Who: 1, Old: api.Conf{Epoch: 2}, Count: spare[:2], Last: api.Key{Stamp: 3}}
	want := api.Exchange{Who: 1, Old: api.Conf{Epoch: 2}, Count: []uint32{1, 2}, Last: api.Key{Stamp: 3}}
	a := New(api.Conf{}, set.Of(0, 1))
	a.Add(x)
	if !slices.Equal(spare, []uint32{1, 2, 3, 4}) {
		t.Error("Add changed what it was handed: ", spare)
	}
	x.Count[0], x.Count[1], x.Old.Epoch, x.Last.Stamp = 9, 9, 9, 9
	first, second := a.Exchanges(), a.Exchanges()
	if !equal(first[0], want) || !equal(second[0], want) {
		t.Errorf("%v, %v, want %v", first, second, want)
	}
	first[0].Count[0], first[0].Old.Epoch, first[0].Who = 8, 8, 8
	_ = append(first[0].Count, 8)
	if !equal(second[0], want) {
		t.Errorf("two answers share memory: %v", second)
	}
	if l := a.Exchanges(); !equal(l[0], want) {
		t.Errorf("the attempt and an answer share memory: %v", l)
	}
	a.Add(api.Exchange{Who: 0, Count: x.Count})
	a.Add(api.Exchange{Who: 0, Count: spare})
	l := a.Exchanges()
	l[0].Count[0] = 7
	if l[1].Count[0] != 1 || x.Count[0] != 9 || a.Exchanges()[0].Count[0] != 9 {
		t.Errorf("two exchanges share memory: %v", l)
	}
}

// Two members' exchanges of one list share nothing in the attempt, nor in its answer.
func TestExchangesOfOneList(t *testing.T) {
	count := []uint32{5, 6}
	a := New(api.Conf{}, set.Of(0, 1, 2))
	for p := range 3 {
		a.Add(api.Exchange{Who: p, Count: count})
	}
	l := a.Exchanges()
	l[0].Count[0], count[1] = 9, 9
	for p := 1; p < 3; p++ {
		if !slices.Equal(l[p].Count, []uint32{5, 6}) {
			t.Errorf("of %d: %v", p, l[p].Count)
		}
	}
	for _, x := range a.Exchanges() {
		if !slices.Equal(x.Count, []uint32{5, 6}) {
			t.Errorf("of %d: %v", x.Who, x.Count)
		}
	}
}

// At each stage, a copy is like it; each goes its own way.
func TestCopies(t *testing.T) {
	members := set.Of(1, 2, 4)
	row := slices.Concat(adds(2, 4, 1), readies(4, 1, 2))
	rest := [][]call{
		{add(1, 9), add(2, 9), add(4, 9), rdy(1), rdy(2), rdy(4)},
		{add(4, 8), add(1, 8), rdy(4)},
		{rdy(2), rdy(1)},
		nil,
	}
	for n := range len(row) + 1 {
		for _, one := range rest {
			for _, other := range rest {
				a, m := both(t, "ahead of the copy", members, row[:n]...)
				b, k := a.Copy(), m.copy()
				before := state(a)
				same(t, b, k, "a new copy")
				for _, c := range one {
					take(t, b, k, c, "a copy")
					same(t, b, k, "a copy")
					if !reflect.DeepEqual(a, before) {
						t.Fatalf("%v, told to a copy, changed what it was copied of", c)
					}
				}
				c, l, before := b.Copy(), k.copy(), state(b)
				for _, x := range other {
					take(t, a, m, x, "what was copied")
					same(t, a, m, "what was copied")
				}
				same(t, b, k, "a copy, behind what was told to the other")
				same(t, c, l, "a copy of a copy")
				if !reflect.DeepEqual(b, before) {
					t.Fatal("the copy changed with what it was copied of")
				}
			}
		}
	}
}

func TestACopySharesNoAnswers(t *testing.T) {
	a := New(api.Conf{Epoch: 2}, set.Of(0, 1))
	a.Add(api.Exchange{Who: 0, Count: []uint32{1}})
	b := a.Copy()
	l, k := a.Exchanges(), b.Exchanges()
	l[0].Count[0], k[0].Who = 9, 9
	if k[0].Count[0] != 1 || a.Exchanges()[0].Count[0] != 1 || b.Exchanges()[0].Count[0] != 1 || b.Exchanges()[0].Who != 0 {
		t.Error("a copy shares memory with what it was copied of")
	}
	for _, x := range []*Attempt{New(api.Conf{}, 0).Copy(), New(api.Conf{}, set.Of(3)).Copy().Copy()} {
		m := newTold(api.Conf{}, x.Members())
		for _, c := range []call{rdy(3), add(3, 1), add(3, 2), rdy(3)} {
			take(t, x, m, c, "a copy of a new one")
			same(t, x, m, "a copy of a new one")
		}
	}
}

// P16.2: Needs, Fails.

// needs: as the chapter's words have it, one process after the other.
func needs(members, reach, strange set.Set, me int) bool {
	l := list(reach)
	if len(l) == 0 || l[0] != me {
		return false
	}
	for _, p := range l {
		if slices.Contains(list(strange), p) {
			return true
		}
	}
	return !slices.Equal(l, list(members))
}

func TestNeeds(t *testing.T) {
	for _, x := range []struct {
		what                    string
		members, reach, strange set.Set
		me                      int
		want                    bool
	}{
		{"all is well", set.Of(0, 1), set.Of(0, 1), 0, 0, false},
		{"all is well, not the least one", set.Of(0, 1), set.Of(0, 1), 0, 1, false},
		{"alone, and well", set.Of(5), set.Of(5), 0, 5, false},
		{"all 64, and well", set.All(64), set.All(64), 0, 0, false},
		{"one is gone", set.Of(0, 1, 2), set.Of(0, 1), 0, 0, true},
		{"one is gone, not the least one", set.Of(0, 1, 2), set.Of(0, 1), 0, 1, false},
		{"the least one is gone", set.Of(0, 1, 2), set.Of(1, 2), 0, 1, true},
		{"the least one is gone, another one", set.Of(0, 1, 2), set.Of(1, 2), 0, 2, false},
		{"one has come", set.Of(0, 1), set.Of(0, 1, 2), 0, 0, true},
		{"one has come, not the least one", set.Of(0, 1), set.Of(0, 1, 2), 0, 1, false},
		{"one has come, that one", set.Of(0, 1), set.Of(0, 1, 2), 0, 2, false},
		{"a lesser one has come, that one", set.Of(1, 2), set.Of(0, 1, 2), 0, 0, true},
		{"a lesser one has come, the one that was the least", set.Of(1, 2), set.Of(0, 1, 2), 0, 1, false},
		{"one has gone, one has come", set.Of(0, 1), set.Of(0, 2), 0, 0, true},
		{"all others are gone", set.Of(0, 62, 63), set.Of(63), 0, 63, true},
		{"of all 64 the last is gone", set.All(64), set.All(63), 0, 0, true},
		{"the last of all 64 has come", set.All(63), set.All(64), 0, 0, true},
		{"one is strange", set.Of(0, 1), set.Of(0, 1), set.Of(1), 0, true},
		{"one is strange, that one", set.Of(0, 1), set.Of(0, 1), set.Of(1), 1, false},
		{"me alone is strange", set.Of(0, 1), set.Of(0, 1), set.Of(0), 0, true},
		{"all are strange", set.Of(0, 1), set.Of(0, 1), set.Of(0, 1), 0, true},
		{"all are strange, not the least one", set.Of(0, 1), set.Of(0, 1), set.Of(0, 1), 1, false},
		{"the greatest one is strange", set.Of(0, 63), set.Of(0, 63), set.Of(63), 0, true},
		{"strange is one that isn't reached", set.Of(0, 1), set.Of(0, 1), set.Of(2), 0, false},
		{"strange are all that aren't reached", set.Of(0, 1), set.Of(0, 1), set.All(64).Less(0, 1), 0, false},
		{"strange is one that is gone", set.Of(0, 1, 2), set.Of(0, 1), set.Of(2), 0, true},
		{"me isn't reached", set.Of(0, 1), set.Of(1), 0, 0, false},
		{"me isn't reached, and is the least member", set.Of(0, 1), set.Of(1), set.Of(0, 1), 0, false},
		{"nobody is reached", set.Of(0, 1), 0, 0, 0, false},
		{"nobody is reached, not the least one", set.Of(0, 1), 0, set.Of(0, 1), 1, false},
		{"nobody is reached, of nobody", 0, 0, 0, 0, false},
		{"nobody is a member", 0, set.Of(0, 1), 0, 0, true},
	} {
		for _, c := range confs {
			for range 2 {
				if got := Needs(c, x.members, x.reach, x.strange, x.me); got != x.want || got != needs(x.members, x.reach, x.strange, x.me) {
					t.Errorf("%s: %v, want %v", x.what, got, x.want)
				}
			}
		}
	}
}

// of: the set of those of these places whose bits are 1.
func of(places []int, bits int) set.Set {
	var l []int
	for i, p := range places {
		if bits>>i%2 == 1 {
			l = append(l, p)
		}
	}
	return number(l)
}

func TestNeedsOfAllSmallSets(t *testing.T) {
	for _, places := range [][]int{{0, 1, 2, 3}, {60, 61, 62, 63}, {0, 31, 32, 63}} {
		for i := range 16 * 16 * 16 {
			members, reach, strange := of(places, i%16), of(places, i/16%16), of(places, i/256)
			for _, me := range append([]int{0, 1, 63, 4, math.MinInt, -64, 64, 128, math.MaxInt}, places...) {
				if got := Needs(confs[i%len(confs)], members, reach, strange, me); got != needs(members, reach, strange, me) {
					t.Fatalf("Needs(%v, %v, %v, %d) = %v", list(members), list(reach), list(strange), me, got)
				}
			}
		}
	}
}

// No number but a process is the least one of any.
func TestNeedsOfNoProcess(t *testing.T) {
	for _, me := range odd {
		for _, reach := range []set.Set{set.Of(0), set.Of(1, 2), set.Of(62, 63), set.Of(63), set.All(64)} {
			if Needs(api.Conf{}, 0, reach, set.All(64), me) {
				t.Errorf("%d of %v", me, list(reach))
			}
		}
		// Of nobody, layer 2's Min is -1; so that is the only one that counts as the least there.
		if got := Needs(api.Conf{}, set.Of(0), 0, 0, me); got != (me == -1) {
			t.Errorf("%d of nobody: %v", me, got)
		}
		if Needs(api.Conf{}, 0, 0, set.All(64), me) {
			t.Errorf("%d of nobody, where nobody is a member", me)
		}
	}
}

func TestNeedsThatLooksLikeChance(t *testing.T) {
	var d turned = 3
	for range 20000 {
		members, strange := d.set(1+d.below(20)), d.set(1+d.below(30))
		reach := members
		if d.below(3) == 0 {
			reach = d.set(1 + d.below(20))
		}
		if d.below(2) == 0 {
			strange = strange.But(reach)
		}
		l := append(list(reach), -2, 64)
		for _, me := range []int{l[0], l[d.below(len(l))], d.below(64)} {
			if got := Needs(api.Conf{}, members, reach, strange, me); got != needs(members, reach, strange, me) {
				t.Fatalf("Needs(%v, %v, %v, %d) = %v", list(members), list(reach), list(strange), me, got)
			}
		}
	}
}

// fails: as the chapter's words have it.
func fails(id api.Conf, members, reach set.Set, newest map[int]api.Conf) bool {
	if !slices.Equal(list(members), list(reach)) {
		return true
	}
	for _, p := range list(members) {
		if c, ok := newest[p]; ok && (c.Epoch > id.Epoch || c.Epoch == id.Epoch && c.Rep > id.Rep) {
			return true
		}
	}
	return false
}

// newest: names that were told.
type newest = map[int]api.Conf

func TestFails(t *testing.T) {
	id := api.Conf{Epoch: 5, Rep: 1}
	for _, x := range []struct {
		what           string
		members, reach set.Set
		newest         newest
		want           bool
	}{
		{"all are reached, nil", set.Of(0, 1), set.Of(0, 1), nil, false},
		{"all are reached, no names", set.Of(0, 1), set.Of(0, 1), newest{}, false},
		{"nobody, of nobody", 0, 0, nil, false},
		{"all 64", set.All(64), set.All(64), nil, false},
		{"one is gone", set.Of(0, 1), set.Of(0), nil, true},
		{"the least one is gone", set.Of(0, 1), set.Of(1), nil, true},
		{"one has come", set.Of(0, 1), set.Of(0, 1, 2), nil, true},
		{"one has gone, one has come", set.Of(0, 1), set.Of(0, 2), nil, true},
		{"nobody is reached", set.Of(0, 1), 0, nil, true},
		{"one is reached, of nobody", 0, set.Of(3), nil, true},
		{"of all 64 the last is gone", set.All(64), set.All(63), nil, true},
		{"one is gone, and told of that very name", set.Of(0, 1), set.Of(0), newest{1: id}, true},
		{"ahead by the epoch", set.Of(0, 1), set.Of(0, 1), newest{1: {Epoch: 4, Rep: 63}}, false},
		{"ahead by who represents it", set.Of(0, 1), set.Of(0, 1), newest{1: {Epoch: 5}}, false},
		{"none", set.Of(0, 1), set.Of(0, 1), newest{0: {}, 1: {}}, false},
		{"that very name", set.Of(0, 1), set.Of(0, 1), newest{0: id, 1: id}, false},
		{"behind by the epoch", set.Of(0, 1), set.Of(0, 1), newest{1: {Epoch: 6}}, true},
		{"behind by who represents it", set.Of(0, 1), set.Of(0, 1), newest{1: {Epoch: 5, Rep: 2}}, true},
		{"behind, of the least one", set.Of(0, 1), set.Of(0, 1), newest{0: {Epoch: 6}}, true},
		{"behind, of the greatest one", set.Of(0, 63), set.Of(0, 63), newest{63: {Epoch: 6}}, true},
		{"behind, beside some that aren't", set.Of(0, 1, 2), set.Of(0, 1, 2), newest{0: id, 1: {Epoch: 5, Rep: 2}, 2: {}}, true},
		{"behind, of what is no member", set.Of(0, 1), set.Of(0, 1), newest{2: {Epoch: 9}}, false},
		{"behind, of -1", set.Of(0, 63), set.Of(0, 63), newest{-1: {Epoch: 9}}, false},
		{"behind, of 64", set.Of(0, 63), set.Of(0, 63), newest{64: {Epoch: 9}}, false},
		{"behind, of what is no member, beside members' that aren't", set.Of(0, 1), set.Of(0, 1), newest{0: id, 1: {Epoch: 4}, 2: {Epoch: 9}, 64: {Epoch: 9}}, false},
		{"behind, of what is no member and of a member", set.Of(0, 1), set.Of(0, 1), newest{1: {Epoch: 6}, 2: {Epoch: 9}}, true},
		{"behind, of anyone, of nobody", 0, 0, newest{0: {Epoch: 9}, -1: {Epoch: 9}}, false},
		{"the greatest epoch", set.Of(0, 1), set.Of(0, 1), newest{1: {Epoch: math.MaxUint64, Rep: math.MinInt}}, true},
		{"the greatest process, of a lesser epoch", set.Of(0, 1), set.Of(0, 1), newest{1: {Epoch: 4, Rep: math.MaxInt}}, false},
		{"who represents it is -1", set.Of(0, 1), set.Of(0, 1), newest{1: {Epoch: 5, Rep: -1}}, false},
	} {
		// Neither exchanges nor who is ready are anything to it.
		l := list(x.members)
		for _, row := range [][]call{nil, adds(l...), append(adds(l...), readies(l...)...)} {
			a := New(id, x.members)
			for _, c := range row {
				tell(a, c)
			}
			before, was := state(a), maps.Clone(x.newest)
			for range 3 {
				if got := Fails(a, x.reach, x.newest); got != x.want || got != fails(id, x.members, x.reach, x.newest) {
					t.Errorf("%s: %v, want %v", x.what, got, x.want)
				}
			}
			if !reflect.DeepEqual(a, before) || !reflect.DeepEqual(x.newest, was) {
				t.Errorf("%s: Fails changed the attempt, or what it was handed", x.what)
			}
		}
	}
}

// All names against all names, of a member and of what is none.
func TestFailsOfAllNames(t *testing.T) {
	var all []api.Conf
	for _, epoch := range []uint64{0, 1, 4, 5, 6, 1<<32 + 5, 1 << 63, math.MaxUint64} {
		for _, rep := range []int{math.MinInt, -1, 0, 1, 2, 63, 64, math.MaxInt} {
			all = append(all, api.Conf{Epoch: epoch, Rep: rep})
		}
	}
	for _, id := range all {
		a := New(id, set.Of(1, 2))
		for _, c := range all {
			for _, p := range []int{-1, 0, 1, 2, 3, 64, 65} {
				if l := (newest{p: c}); Fails(a, set.Of(1, 2), l) != fails(id, set.Of(1, 2), set.Of(1, 2), l) {
					t.Fatalf("%v, %d told of %v", id, p, c)
				}
			}
		}
	}
}

// All sets of four, with names of each kind of all that are near these.
func TestFailsOfAllSmallSets(t *testing.T) {
	id := api.Conf{Epoch: 5, Rep: 1}
	names := []api.Conf{{Epoch: 5}, id, {Epoch: 5, Rep: 2}}
	places := []int{0, 1, 63}
	for i := range 8 * 8 * 4 * 4 * 4 * 4 * 4 {
		members, reach := of(places, i%8), of(places, i/8%8)
		l, n := newest{}, i/64
		for _, p := range []int{0, 1, 63, 64, 2} {
			if n%4 > 0 {
				l[p] = names[n%4-1]
			}
			n /= 4
		}
		if got := Fails(New(id, members), reach, l); got != fails(id, members, reach, l) {
			t.Fatalf("Fails of %v, %v, %v = %v", list(members), list(reach), l, got)
		}
	}
}

// One of many names, wherever a range over them comes upon it.
func TestFailsOfManyNames(t *testing.T) {
	id := api.Conf{Epoch: 5, Rep: 1}
	a := New(id, set.All(64))
	l := newest{}
	for p := -100; p < 200; p++ {
		l[p] = api.Conf{Epoch: 5, Rep: p % 2}
		if p < 0 || p > 63 {
			l[p] = api.Conf{Epoch: 9}
		}
	}
	for range 20 {
		if Fails(a, set.All(64), l) {
			t.Fatal("none is behind")
		}
	}
	for p := range 64 {
		was := l[p]
		l[p] = api.Conf{Epoch: 5, Rep: 2}
		if !Fails(a, set.All(64), l) {
			t.Fatalf("%d's is behind", p)
		}
		if Fails(New(id, set.All(64).Less(p)), set.All(64).Less(p), l) {
			t.Fatalf("%d is no member", p)
		}
		l[p] = was
	}
	for _, p := range odd {
		if Fails(New(id, set.Of(0)), set.Of(0), newest{p: {Epoch: 9}}) {
			t.Fatalf("%d is no member", p)
		}
	}
}

// P16.3: in whatever order exchanges and readiness come, and as often.

// All orders of what four members tell, and of how they are ready.
func TestAllOrdersComeToTheSame(t *testing.T) {
	members := []int{0, 2, 5, 63}
	want, _ := both(t, "in order", number(members), append(adds(members...), readies(members...)...)...)
	if !want.Done() {
		t.Fatal("not done")
	}
	allOrders(members, func(first []int) {
		start, begun := both(t, "orders", number(members), adds(first...)...)
		if !start.Told() || start.Waits() != number(members) {
			t.Fatalf("%v: not told", first)
		}
		allOrders(members, func(second []int) {
			a, m := start.Copy(), begun.copy()
			for i, p := range second {
				if got := take(t, a, m, rdy(p), "orders"); got != (i == 3) || a.Done() != got {
					t.Fatalf("%v, then ready %v: at %d: %v", first, second, i, got)
				}
			}
			same(t, a, m, "orders")
			if !reflect.DeepEqual(a, want) || !alike(a.Exchanges(), want.Exchanges()) {
				t.Fatalf("%v, then ready %v: %v", first, second, a)
			}
		})
	})
}

// All orders of the exchanges and the readiness of three between each other: done are those where all were ready behind the last exchange.
func TestAllOrdersOfAll(t *testing.T) {
	members := []int{1, 2, 63}
	done := 0
	allOrders(append(adds(members...), readies(members...)...), func(row []call) {
		a, m := both(t, "all orders", number(members))
		last := slices.IndexFunc(row, func(c call) bool { return c.x == nil }) > 2
		for _, c := range row {
			take(t, a, m, c, "all orders")
		}
		same(t, a, m, "all orders")
		if a.Done() != last {
			t.Fatalf("%v: %v", m, a.Done())
		}
		if last {
			done++
		}
		// Whoever isn't ready says it again, as often as it takes: it comes to the same.
		for _, p := range members {
			take(t, a, m, rdy(p), "all orders")
		}
		if !a.Done() || !alike(a.Exchanges(), []api.Exchange{exchange(1, 2), exchange(2, 3), exchange(63, 4)}) {
			t.Fatalf("%v: not done, or other exchanges", m)
		}
	})
	if done != 36 {
		t.Errorf("%d of 720 were done at once, want 36", done)
	}
}

// Rows of calls, each as often as it comes: of all that answer true, one makes it told, and one behind it makes it done.
func TestOneCallTellsAndOneEnds(t *testing.T) {
	var d turned = 11
	ends := 0
	for i := range 2000 {
		members := d.set(8+d.below(60)).With(d.below(64), d.below(64))
		l := list(members)
		row := slices.Concat(adds(l...), adds(l...), readies(l...), readies(l...), readies(l...), []call{add(-1, 1), rdy(64)})
		a, m := both(t, "as often", members)
		toldBy, doneBy := 0, 0
		for _, c := range mixed(&d, row) {
			told, done := a.Told(), a.Done()
			got := take(t, a, m, c, "as often")
			if told && !a.Told() || done && !a.Done() || a.Done() && !a.Told() {
				t.Fatalf("the row %d: %v: %v, %v, then %v, %v", i, m, told, done, a.Told(), a.Done())
			}
			if got != (told != a.Told() || done != a.Done()) {
				t.Fatalf("the row %d: %v: %v answers %v", i, m, c, got)
			}
			if got && c.x != nil {
				toldBy++
			} else if got {
				doneBy++
			}
		}
		same(t, a, m, "as often")
		if toldBy != 1 || doneBy != 1 && a.Done() || doneBy != 0 && !a.Done() {
			t.Fatalf("the row %d: %v: told by %d, done by %d", i, m, toldBy, doneBy)
		}
		ends += doneBy
	}
	if ends < 200 || ends > 1800 {
		t.Errorf("%d of 2000 were done", ends)
	}
}

// member: one that tells what it has as often as it likes, and is ready once it heard that all have told theirs.
type member struct {
	has   api.Exchange
	heard bool
}

// calls that are under way, of which some are lost, doubled, or late.
type way struct {
	under []call
	d     *turned
}

func (w *way) send(c call) {
	for range w.d.below(4) {
		w.under = append(w.under, c)
	}
}

func (w *way) take() (call, bool) {
	if len(w.under) == 0 {
		return call{}, false
	}
	i := w.d.below(len(w.under))
	c := w.under[i]
	w.under = slices.Delete(w.under, i, i+1)
	return c, true
}

// A circle of honest members, whose word is lost, doubled and late: when it is done, all of them heard what all have, and that is what they told.
func TestHonestCircles(t *testing.T) {
	var d turned = 5
	for i := range 300 {
		l := mixed(&d, list(set.All(64)))[:1+d.below(8)]
		a, m := both(t, "a circle", number(l))
		of := map[int]*member{}
		for _, p := range l {
			of[p] = &member{has: exchange(p, d.below(50))}
		}
		w, told, done := way{d: &d}, 0, 0
		for n := 0; done == 0; n++ {
			p := l[d.below(len(l))]
			switch x := of[p]; {
			case n > 10000:
				t.Fatalf("the circle %d: %v: it doesn't end", i, m)
			case x.heard:
				w.send(rdy(p))
			default:
				w.send(call{x: &x.has})
				x.heard = a.Told() && d.below(3) == 0
			}
			c, ok := w.take()
			if !ok || !take(t, a, m, c, "a circle") {
				continue
			}
			if c.x != nil {
				told++
			} else {
				done++
			}
		}
		same(t, a, m, fmt.Sprint("the circle ", i))
		for _, x := range a.Exchanges() {
			if y := of[x.Who]; y == nil || !y.heard || !equal(x, y.has) {
				t.Fatalf("the circle %d: %v", i, x)
			}
		}
		if told != 1 || len(a.Exchanges()) != len(l) {
			t.Fatalf("the circle %d: told %d times, %v", i, told, whos(a.Exchanges()))
		}
		// What comes late changes nothing any more.
		for c, ok := w.take(); ok; c, ok = w.take() {
			if take(t, a, m, c, "a circle, late") {
				t.Fatalf("the circle %d: %v, late", i, c)
			}
		}
		same(t, a, m, fmt.Sprint("the circle ", i, ", late"))
	}
}

// Exchanges stand in a map; names that were told are gone through by a range over a map.
func TestWays(t *testing.T) {
	f, err := parser.ParseFile(token.NewFileSet(), "gather.go", nil, 0)
	if err != nil {
		t.Fatal(err)
	}
	fields, ranges := 0, 0
	ast.Inspect(f, func(n ast.Node) bool {
		switch x := n.(type) {
		case *ast.StructType:
			for _, field := range x.Fields.List {
				if _, ok := field.Type.(*ast.MapType); ok {
					fields++
				}
			}
		case *ast.FuncDecl:
			ranges += rangesOver(x, mapsOf(x))
		}
		return true
	})
	if fields == 0 || ranges == 0 {
		t.Errorf("%d maps are kept, %d maps that were told are gone through", fields, ranges)
	}
}

// mapsOf: the names of the maps that a function is handed.
func mapsOf(f *ast.FuncDecl) []string {
	var out []string
	for _, p := range f.Type.Params.List {
		if _, ok := p.Type.(*ast.MapType); ok {
			for _, n := range p.Names {
				out = append(out, n.Name)
			}
		}
	}
	return out
}

// rangesOver: how many ranges over one of these there are in a function.
func rangesOver(f *ast.FuncDecl, names []string) int {
	n := 0
	ast.Inspect(f, func(x ast.Node) bool {
		if r, ok := x.(*ast.RangeStmt); ok {
			if over, ok := r.X.(*ast.Ident); ok && slices.Contains(names, over.Name) {
				n++
			}
		}
		return true
	})
	return n
}
