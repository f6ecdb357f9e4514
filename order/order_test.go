package order

import (
	"fmt"
	"math"
	"reflect"
	"slices"
	"testing"

	"consort/api"
	"consort/set"
)

// call: what an order is told or asked: by which of its calls, a message, a process, a number, a stamp.
type call struct {
	by    string
	m     api.Message
	p     int
	n     uint32
	stamp uint64
}

func take(from int, seq uint32, stamp uint64, service int) call {
	return call{by: "Take", m: message(from, seq, stamp, service)}
}
func put(from int, seq uint32, stamp uint64, service int) call {
	return call{by: "Put", m: message(from, seq, stamp, service)}
}
func trim(p int, n uint32) call           { return call{by: "Trim", p: p, n: n} }
func drop(p int, n uint32) call           { return call{by: "Drop", p: p, n: n} }
func stamp() call                         { return call{by: "Stamp"} }
func see(s uint64) call                   { return call{by: "See", stamp: s} }
func came(p int, n uint32, s uint64) call { return call{by: "Came", p: p, n: n, stamp: s} }
func vow(p int, s uint64, n uint32) call  { return call{by: "Promise", p: p, n: n, stamp: s} }
func reached(p int, s uint64) call        { return call{by: "Reached", p: p, stamp: s} }
func next() call                          { return call{by: "Next"} }
func drain() call                         { return call{by: "Drain"} }
func joined(l ...[]call) []call           { return slices.Concat(l...) }
func bits(l ...int) (s set.Set)           { return s.With(l...) }
func ofAll(l []int, f func(p int) call) (out []call) {
	for _, p := range l {
		out = append(out, f(p))
	}
	return out
}

// heardUpTo: all of these are heard up to that stamp, and reached up to the other one.
func heardUpTo(all, safe uint64, l ...int) []call {
	return joined(ofAll(l, func(p int) call { return vow(p, all, 0) }), ofAll(l, func(p int) call { return reached(p, safe) }))
}

// message: one of these; its other fields differ from those of other ones.
func message(from int, seq uint32, stamp uint64, service int) api.Message {
	deps := make([]uint32, seq%4, seq%4+2)
	for i := range deps {
		deps[i] = seq*100 + uint32(i)
	}
	return api.Message{From: from, Seq: seq, Stamp: stamp, Service: service, Deps: deps, Payload: fmt.Sprint("p", from, " ", seq, " ", stamp)}
}

// entry: a message that is, or was, held.
type entry struct {
	m                  api.Message
	dropped, delivered bool
}

// told: an order as the chapters' words have it. It keeps all messages, dropped and delivered ones too, and all that was told of stamps, and works out each answer anew from these.
type told struct {
	me      int
	members set.Set
	row     []entry
	stamps  []call
	last    api.Key
}

func (m *told) copy() *told {
	return &told{me: m.me, members: m.members, row: slices.Clone(m.row), stamps: slices.Clone(m.stamps), last: m.last}
}

// other: is p another member than me?
func (m *told) other(p int) bool {
	return p >= 0 && p <= 63 && p != m.me && uint64(m.members)>>p&1 == 1
}

// member: is p one? Me is, if it is a process.
func (m *told) member(p int) bool { return m.other(p) || p == m.me && p >= 0 && p <= 63 }

// others: all of these, rising.
func (m *told) others() []int {
	var out []int
	for p := range 64 {
		if m.other(p) {
			out = append(out, p)
		}
	}
	return out
}

// count: how many of p's messages were put.
func (m *told) count(p int) uint32 {
	var n uint32
	for _, x := range m.row {
		if x.m.From == p {
			n++
		}
	}
	return n
}

// low: how many of them were dropped.
func (m *told) low(p int) uint32 {
	var n uint32
	for _, x := range m.row {
		if x.m.From == p && x.dropped {
			n++
		}
	}
	return n
}

// done: how many of them were delivered.
func (m *told) done(p int) uint32 {
	var n uint32
	for _, x := range m.row {
		if x.m.From == p && x.delivered {
			n++
		}
	}
	return n
}

func (m *told) dones(n int) []uint32 {
	var out []uint32
	for p := 0; p < n && p < 64; p++ {
		out = append(out, m.done(p))
	}
	return out
}

// held: p's messages that are.
func (m *told) held(p int) []api.Message {
	var out []api.Message
	for _, x := range m.row {
		if x.m.From == p && !x.dropped {
			out = append(out, x.m)
		}
	}
	return out
}

// before: does a come ahead of b, by stamp, by sender, by number?
func before(a, b api.Message) bool {
	if a.Stamp != b.Stamp {
		return a.Stamp < b.Stamp
	}
	if a.From != b.From {
		return a.From < b.From
	}
	return a.Seq < b.Seq
}

// rest: all held messages that weren't delivered, in the order of their keys.
func (m *told) rest() []api.Message {
	var out []api.Message
	for _, x := range m.row {
		if x.dropped || x.delivered {
			continue
		}
		i := 0
		for i < len(out) && before(out[i], x.m) {
			i++
		}
		out = slices.Insert(out, i, x.m)
	}
	return out
}

func (m *told) put(x api.Message) api.Errno {
	if x.From < 0 || x.From > 63 {
		return 1
	}
	if uint64(x.Seq) != uint64(m.count(x.From))+1 {
		return 13
	}
	m.row = append(m.row, entry{m: x})
	return 0
}

func (m *told) take(x api.Message) api.Errno {
	if !m.member(x.From) {
		return 5
	}
	if e := m.put(x); e != 0 {
		return e
	}
	if x.From == m.me {
		m.stamps = append(m.stamps, see(x.Stamp))
	} else {
		m.stamps = append(m.stamps, came(x.From, x.Seq, x.Stamp))
	}
	return 0
}

func (m *told) drop(p int, upto uint32) {
	for i, x := range m.row {
		if x.m.From == p && x.m.Seq <= upto {
			m.row[i].dropped = true
		}
	}
}

func (m *told) trim(p int, upto uint32) {
	var far uint32
	for _, x := range m.row {
		if x.m.From == p && x.delivered {
			far = max(far, x.m.Seq)
		}
	}
	m.drop(p, min(upto, far))
}

// head: where p's first held message that wasn't delivered stands; -1, if there is none.
func (m *told) head(p int) int {
	return slices.IndexFunc(m.row, func(x entry) bool { return x.m.From == p && !x.dropped && !x.delivered })
}

// next: the next message, if it is ripe; it is delivered then.
func (m *told) next() (api.Message, bool) {
	first := -1
	for p := range 64 {
		if i := m.head(p); m.member(p) && i >= 0 && (first < 0 || before(m.row[i].m, m.row[first].m)) {
			first = i
		}
	}
	if first < 0 {
		return api.Message{}, false
	}
	x := m.row[first].m
	if x.Stamp > m.all() || x.Service == 2 && x.Stamp > m.safe() {
		return api.Message{}, false
	}
	m.row[first].delivered = true
	m.last = api.Key{Stamp: x.Stamp, From: x.From}
	return x, true
}

func (m *told) drain() []api.Message {
	var out []api.Message
	for {
		x, ok := m.next()
		if !ok {
			return out
		}
		out = append(out, x)
	}
}

func (m *told) clock() uint64 {
	var c uint64
	for _, x := range m.stamps {
		switch {
		case x.by == "Stamp" && c < math.MaxUint64:
			c++
		case x.by == "See" && x.stamp > c, (x.by == "Came" || x.by == "Promise") && m.other(x.p) && x.stamp > c:
			c = x.stamp
		}
	}
	return c
}

// heard: how far the other member p was: the greatest stamp of those that came, and of the promises that count.
func (m *told) heard(p int) uint64 {
	var mark uint64
	for i, x := range m.stamps {
		if x.p == p && x.stamp > mark && (x.by == "Came" || x.by == "Promise" && m.counts(i)) {
			mark = x.stamp
		}
	}
	return mark
}

// counts: does that promise, since what came last ahead of it was enough, or something behind it?
func (m *told) counts(i int) bool {
	w := m.stamps[i]
	var lately uint32
	for k, x := range m.stamps {
		switch {
		case x.by != "Came" || x.p != w.p:
		case k < i:
			lately = x.n
		case x.n >= w.n:
			return true
		}
	}
	return lately >= w.n
}

// reached: how far the other member p heard everybody.
func (m *told) reached(p int) uint64 {
	var mark uint64
	for _, x := range m.stamps {
		if x.p == p && x.by == "Reached" {
			mark = max(mark, x.stamp)
		}
	}
	return mark
}

func (m *told) all() uint64 {
	least := m.clock()
	for _, p := range m.others() {
		least = min(least, m.heard(p))
	}
	return least
}

func (m *told) safe() uint64 {
	least := m.all()
	for _, p := range m.others() {
		least = min(least, m.reached(p))
	}
	return least
}

// odd: numbers that are no process; the lowest bits of some are those of one.
var odd = []int{math.MinInt, math.MinInt + 1, -1 << 32, -1<<32 + 1, -64, -63, -2, -1, 64, 65, 66, 127, 128, 256, 1 << 31, 1 << 32, 1<<32 + 1, math.MaxInt - 1, math.MaxInt}

// processes: all of them, and numbers that are none.
func processes() []int {
	out := slices.Clone(odd)
	for p := range 64 {
		out = append(out, p)
	}
	return out
}

// whose: who has the order: processes, and what is none.
var whose = []int{math.MinInt, -1 << 32, -64, -1, 0, 1, 2, 31, 62, 63, 64, 65, 128, 1 << 32, 1<<32 + 2, math.MaxInt}

// circles: members of all shapes.
var circles = []set.Set{0, 1, 2, 4, 5, 7, 1 << 31, 1 << 63, 1<<63 | 1, 3 << 62, 0x5555555555555555, math.MaxUint64 - 1, math.MaxUint64 >> 1, math.MaxUint64}

// equal: are two messages the same in all fields?
func equal(a, b api.Message) bool {
	return a.From == b.From && a.Seq == b.Seq && a.Stamp == b.Stamp && a.Service == b.Service && a.Payload == b.Payload && slices.Equal(a.Deps, b.Deps)
}

// alike: are two lists of messages?
func alike(a, b []api.Message) bool { return slices.EqualFunc(a, b, equal) }

// names: sender and number of each of these.
func names(l []api.Message) []string {
	out := []string{}
	for _, m := range l {
		out = append(out, fmt.Sprint(m.From, ".", m.Seq))
	}
	return out
}

// state: all that an order has, to be held against what it has later.
func state(o *Order) *Order {
	out := *o
	out.Hold, out.Horizon = o.Hold.Copy(), o.Horizon.Copy()
	return &out
}

// unchanged: whether o is as it was.
func unchanged(t *testing.T, o, was *Order, what string) {
	t.Helper()
	if !reflect.DeepEqual(o, was) {
		t.Fatalf("%s: the order was changed", what)
	}
}

// same: whether o answers as m does, of all that is asked, and would deliver the same; answers leave it as it is.
func same(t *testing.T, o *Order, m *told, what string) {
	t.Helper()
	was := state(o)
	for range 2 {
		if rest := m.rest(); o.Last() != m.last || !alike(o.Rest(), rest) {
			t.Fatalf("%s: Last() = %v, Rest() = %v, want %v, %v", what, o.Last(), names(o.Rest()), m.last, names(rest))
		}
		if clock, all, safe := m.clock(), m.all(), m.safe(); o.Clock() != clock || o.All() != all || o.Safe() != safe {
			t.Fatalf("%s: %d, %d, %d, want %d, %d, %d", what, o.Clock(), o.All(), o.Safe(), clock, all, safe)
		}
	}
	for _, p := range m.asked() {
		if o.Done(p) != m.done(p) || o.Count(p) != m.count(p) || o.Low(p) != m.low(p) || !alike(o.From(p, 0, math.MaxInt), m.held(p)) {
			t.Fatalf("%s: of %d: Done = %d, Count = %d, Low = %d, want %d, %d, %d", what, p, o.Done(p), o.Count(p), o.Low(p), m.done(p), m.count(p), m.low(p))
		}
	}
	for _, n := range []int{-1, 0, 1, 3, 64, 65} {
		if l := o.Dones(n); !slices.Equal(l, m.dones(n)) {
			t.Fatalf("%s: Dones(%d) = %v, want %v", what, n, l, m.dones(n))
		}
	}
	if l, want := state(o).Drain(), m.copy().drain(); !alike(l, want) {
		t.Fatalf("%s: Drain() = %v, want %v", what, names(l), names(want))
	}
	unchanged(t, o, was, what+": by answers")
}

// asked: the processes that have messages, and some that may have none, or be none.
func (m *told) asked() []int {
	out := []int{-1, 0, 2, 63, 64, m.me}
	for _, x := range m.row {
		out = append(out, x.m.From)
	}
	slices.Sort(out)
	return slices.Compact(out)
}

// do: the call is made on both, which answer the same; an error, or a false, changes nothing.
func do(t *testing.T, o *Order, m *told, c call, what string) {
	t.Helper()
	was := state(o)
	switch c.by {
	case "Take", "Put":
		e, want := api.OK, api.OK
		if c.by == "Take" {
			e, want = o.Take(c.m), m.take(c.m)
		} else {
			e, want = o.Put(c.m), m.put(c.m)
		}
		if e != want {
			t.Fatalf("%s: %s of %d.%d = %d, want %d", what, c.by, c.m.From, c.m.Seq, e, want)
		}
		if want != api.OK {
			unchanged(t, o, was, what+": by an error")
		}
	case "Next":
		x, ok := o.Next()
		if want, wantOK := m.next(); ok != wantOK || !equal(x, want) {
			t.Fatalf("%s: Next() = %+v, %v, want %+v, %v", what, x, ok, want, wantOK)
		}
		if !ok {
			unchanged(t, o, was, what+": by a false")
		}
	case "Drain":
		if l, want := o.Drain(), m.drain(); !alike(l, want) {
			t.Fatalf("%s: Drain() = %v, want %v", what, names(l), names(want))
		}
	case "Trim":
		o.Trim(c.p, c.n)
		m.trim(c.p, c.n)
	case "Drop":
		o.Drop(c.p, c.n)
		m.drop(c.p, c.n)
	default:
		doStamps(t, o, m, c, what)
	}
}

// doStamps: likewise, of the horizon's calls.
func doStamps(t *testing.T, o *Order, m *told, c call, what string) {
	t.Helper()
	m.stamps = append(m.stamps, c)
	switch c.by {
	case "Stamp":
		if s := o.Stamp(); s != m.clock() {
			t.Fatalf("%s: Stamp() = %d, want %d", what, s, m.clock())
		}
	case "See":
		o.See(c.stamp)
	case "Came":
		o.Came(c.p, c.n, c.stamp)
	case "Promise":
		o.Promise(c.p, c.stamp, c.n)
	case "Reached":
		o.Reached(c.p, c.stamp)
	default:
		t.Fatalf("%s: no such call: %s", what, c.by)
	}
}

// both: an order and what it was told: these calls, each answer held against the other.
func both(t *testing.T, what string, me int, members set.Set, row ...call) (*Order, *told) {
	t.Helper()
	o, m := New(me, members), &told{me: me, members: members}
	same(t, o, m, what+", at the beginning")
	for i, c := range row {
		do(t, o, m, c, fmt.Sprint(what, ", the call ", i))
		same(t, o, m, fmt.Sprint(what, ", behind the call ", i))
	}
	return o, m
}

// turned: numbers that look like chance, the same ones each time.
type turned uint64

func (d *turned) below(n int) int {
	*d = *d*6364136223846793005 + 1442695040888963407
	return int(uint64(*d) >> 33 % uint64(n))
}

// All functions of the hold and of the horizon are the order's own; Copy is its own.
var _ interface {
	Put(m api.Message) api.Errno
	Count(p int) uint32
	Low(p int) uint32
	Get(p int, seq uint32) (api.Message, bool)
	Drop(p int, upto uint32)
	Vector(n int) []uint32
	From(p int, seq uint32, most int) []api.Message
	Above(k api.Key) []api.Message
	Stamp() uint64
	See(stamp uint64)
	Came(p int, seq uint32, stamp uint64)
	Promise(p int, stamp uint64, sent uint32)
	Reached(p int, stamp uint64)
	Clock() uint64
	All() uint64
	Safe() uint64
	Copy() *Order
} = (*Order)(nil)

// P14.1: New, Take.

func TestANewOrderDeliveredNothing(t *testing.T) {
	for _, me := range whose {
		for _, members := range circles {
			o, m := both(t, fmt.Sprintf("me %d, members %x", me, members), me, members)
			if x, ok := o.Next(); ok || !equal(x, api.Message{}) || len(o.Drain()) != 0 || len(o.Rest()) != 0 || o.Last() != (api.Key{}) {
				t.Errorf("me %d, members %x: Next() = %+v, %v, Rest() = %v, Last() = %v", me, members, x, ok, names(o.Rest()), o.Last())
			}
			for _, p := range processes() {
				if o.Done(p) != 0 || o.Count(p) != 0 || o.Low(p) != 0 {
					t.Errorf("me %d, members %x: of %d: Done = %d, Count = %d, Low = %d", me, members, p, o.Done(p), o.Count(p), o.Low(p))
				}
			}
			if o.Clock() != 0 || o.All() != 0 || o.Safe() != 0 || !slices.Equal(o.Dones(64), make([]uint32, 64)) || !slices.Equal(o.Vector(64), make([]uint32, 64)) {
				t.Errorf("me %d, members %x: %d, %d, %d", me, members, o.Clock(), o.All(), o.Safe())
			}
			same(t, o, m, "a new one")
		}
	}
}

// Heads of the keys {4 1} and {4 0}: {4 0} is next; ripe once everybody was heard up to 4.
func TestTheExample(t *testing.T) {
	o := New(2, bits(0, 1, 2, 3))
	for _, p := range []int{1, 0} {
		if e := o.Take(api.Message{From: p, Seq: 1, Stamp: 4}); e != api.OK {
			t.Fatal(p, e)
		}
	}
	if m, ok := o.Next(); ok {
		t.Errorf("3 wasn't heard: %+v", m)
	}
	o.Promise(3, 4, 0)
	for _, p := range []int{0, 1} {
		m, ok := o.Next()
		if k := (api.Key{Stamp: 4, From: p}); !ok || m.From != p || m.Stamp != 4 || m.Seq != 1 || o.Last() != k {
			t.Errorf("Next() = %+v, %v, Last() = %v, want %v", m, ok, o.Last(), k)
		}
	}
	if m, ok := o.Next(); ok {
		t.Errorf("none is left: %+v", m)
	}
}

// Only members' messages are taken; me is one, if it is a process.
func TestTakeOfMembersAlone(t *testing.T) {
	for _, me := range whose {
		for _, members := range circles {
			o, m := New(me, members), &told{me: me, members: members}
			for _, p := range append(processes(), me) {
				want := api.ErrNone
				if m.member(p) {
					want = api.OK
				}
				seq := m.count(max(p, 0)) + 1
				was := state(o)
				if e := o.Take(message(p, seq, 9, 1)); e != want {
					t.Fatalf("me %d, members %x: Take of %d.%d = %d, want %d", me, members, p, seq, e, want)
				}
				if want != api.OK {
					unchanged(t, o, was, "by a message of no member")
				}
				m.take(message(p, seq, 9, 1))
			}
			same(t, o, m, fmt.Sprintf("me %d, members %x", me, members))
		}
	}
}

// That its sender is no member is said ahead of what the hold says.
func TestErrorsOfTake(t *testing.T) {
	for _, x := range []struct {
		what string
		from int
		seq  uint32
		want api.Errno
	}{
		{"the number 0", 0, 0, api.ErrOrder},
		{"one that is held", 0, 1, api.ErrOrder},
		{"the last one that is held", 0, 3, api.ErrOrder},
		{"the next one", 0, 4, api.OK},
		{"a gap of one", 0, 5, api.ErrOrder},
		{"a great gap", 0, 1 << 31, api.ErrOrder},
		{"the greatest number", 0, math.MaxUint32, api.ErrOrder},
		{"one that was trimmed", 2, 1, api.ErrOrder},
		{"the last one that was trimmed", 2, 2, api.ErrOrder},
		{"the next one, where all were trimmed", 2, 3, api.OK},
		{"a gap, where all were trimmed", 2, 4, api.ErrOrder},
		{"of me, 0", 1, 0, api.ErrOrder},
		{"of me, held", 1, 1, api.ErrOrder},
		{"of me, the next one", 1, 2, api.OK},
		{"of me, a gap", 1, 3, api.ErrOrder},
		{"of one without messages, 0", 63, 0, api.ErrOrder},
		{"of one without messages, 1", 63, 1, api.OK},
		{"of one without messages, 2", 63, 2, api.ErrOrder},
		{"of no member, 0", 3, 0, api.ErrNone},
		{"of no member, 1", 3, 1, api.ErrNone},
		{"of no member, 2", 62, 2, api.ErrNone},
		{"of no member that has messages", 5, 1, api.ErrNone},
		{"of no member that has messages, the next one", 5, 2, api.ErrNone},
		{"below all processes", -1, 1, api.ErrNone},
		{"below all processes, 0", -1, 0, api.ErrNone},
		{"above all processes", 64, 1, api.ErrNone},
		{"above all processes, 0", 64, 0, api.ErrNone},
		{"64 above a member", 65, 2, api.ErrNone},
		{"2^32 above a member", 1 << 32, 4, api.ErrNone},
		{"the least number", math.MinInt, 1, api.ErrNone},
		{"the greatest number", math.MaxInt, 1, api.ErrNone},
	} {
		o, m := both(t, x.what, 1, bits(0, 2, 63), joined([]call{
			take(2, 1, 1, 0), take(2, 2, 2, 1), take(0, 1, 3, 1), take(0, 2, 4, 0), take(1, 1, 5, 2), vow(0, 4, 2), vow(63, 2, 0), vow(2, 2, 0), drain(), trim(2, 2), take(0, 3, 6, 1), put(5, 1, 4, 1), vow(2, 50, 3), vow(63, 50, 1),
		})...)
		was := state(o)
		for _, s := range []uint64{0, 7, 1000, math.MaxUint64} { // with a stamp that would move marks, too
			c, mc := state(o), m.copy()
			y := message(x.from, x.seq, s, 1)
			if e := c.Take(y); e != x.want || e != mc.take(y) {
				t.Fatalf("%s: Take of %d.%d = %d, want %d", x.what, x.from, x.seq, e, x.want)
			}
			if x.want != api.OK {
				unchanged(t, c, was, x.what)
			}
			same(t, c, mc, x.what)
		}
	}
}

// What comes of another member is heard of it; of me the clock alone is told.
func TestTakeTellsTheHorizon(t *testing.T) {
	for _, x := range []struct {
		what             string
		c                call
		clock, all, safe uint64
	}{
		{"of one, below all", take(0, 2, 5, 1), 20, 10, 7},
		{"of one, just its mark", take(0, 2, 10, 1), 20, 10, 7},
		{"of one, above its mark", take(0, 2, 11, 1), 20, 11, 7},
		{"of one, just the clock", take(0, 2, 20, 1), 20, 15, 7},
		{"of one, above the clock", take(0, 2, 21, 1), 21, 15, 7},
		{"of one, the greatest stamp", take(0, 2, math.MaxUint64, 1), math.MaxUint64, 15, 7},
		{"of the other one, above the clock", take(2, 1, 21, 1), 21, 10, 7},
		{"of me, below all", take(1, 1, 5, 1), 20, 10, 7},
		{"of me, just the clock", take(1, 1, 20, 1), 20, 10, 7},
		{"of me, above the clock", take(1, 1, 21, 1), 21, 10, 7},
		{"of me, the greatest stamp", take(1, 1, math.MaxUint64, 2), math.MaxUint64, 10, 7},
		{"of one, of whom a promise counts by it", take(63, 1, 3, 0), 20, 10, 7},
		{"of one that isn't next", take(0, 3, 30, 1), 20, 10, 7},
		{"of no member", take(3, 1, 30, 1), 20, 10, 7},
		{"put past Take", put(0, 2, 30, 1), 20, 10, 7},
	} {
		o, m := both(t, x.what, 1, bits(0, 2, 63), take(0, 1, 10, 1), vow(2, 15, 0), vow(63, 15, 0), vow(63, 20, 1), reached(0, 7), reached(2, 8), reached(63, 9))
		do(t, o, m, x.c, x.what)
		if o.Clock() != x.clock || o.All() != x.all || o.Safe() != x.safe {
			t.Errorf("%s: %d, %d, %d, want %d, %d, %d", x.what, o.Clock(), o.All(), o.Safe(), x.clock, x.all, x.safe)
		}
		same(t, o, m, x.what)
	}
}

// A promise for so many messages counts once these were taken.
func TestTakeTellsNumbers(t *testing.T) {
	o, m := both(t, "numbers", 0, bits(0, 1), vow(1, 50, 3))
	for seq := uint32(1); seq <= 3; seq++ {
		if o.All() != uint64(seq-1) {
			t.Errorf("ahead of %d: All() = %d", seq, o.All())
		}
		do(t, o, m, take(1, seq, uint64(seq), 1), "numbers")
	}
	if o.All() != 50 {
		t.Errorf("All() = %d", o.All())
	}
	same(t, o, m, "numbers")
}

// Me that is no process is no member, and all members are others.
func TestMeAmongTheMembersOrNot(t *testing.T) {
	for _, me := range []int{-1, 0, 1, 63, 64} {
		isOne := me >= 0 && me <= 63
		calls := []call{
			take(0, 1, 4, 1), take(2, 1, 5, 2), take(63, 1, 4, 0), take(me, 1, 6, 1), take(me, 2, 7, 2), next(), drain(), vow(0, 9, 2), vow(0, 9, 1), vow(2, 8, 0), vow(63, 8, 1), next(), drain(), reached(0, 6), reached(2, 9), reached(63, 8), drain(), reached(0, 9), drain(), trim(me, 1), stamp(), drain(),
		}
		with, m := both(t, "a member", me, bits(0, 2, 63).With(me), calls...)
		without, _ := both(t, "no member", me, bits(0, 2, 63).Less(me), calls...)
		if isOne && !reflect.DeepEqual(with, without) {
			t.Errorf("me %d: with and without me among the members they differ", me)
		}
		if me == -1 || me == 64 {
			if e := with.Take(api.Message{From: me, Seq: 1}); e != api.ErrNone {
				t.Errorf("me %d: %d", me, e)
			}
			if with.Done(me) != 0 || m.done(0)+m.done(2)+m.done(63) != 3 {
				t.Errorf("me %d: %v", me, with.Dones(64))
			}
		}
	}
}

// With nobody else all is ripe at once.
func TestAlone(t *testing.T) {
	for _, me := range []int{0, 1, 31, 62, 63} {
		for _, members := range []set.Set{0, bits(me)} {
			o, m := both(t, "alone", me, members)
			for seq := uint32(1); seq <= 9; seq++ {
				do(t, o, m, take(me, seq, o.Stamp(), int(seq%3)), "alone")
				if l := o.Drain(); len(l) != 1 || l[0].Seq != seq || l[0].From != me || o.Done(me) != seq || o.Last() != (api.Key{Stamp: uint64(seq), From: me}) || len(o.Rest()) != 0 {
					t.Fatalf("me %d: %v, Done = %d, Last() = %v", me, names(l), o.Done(me), o.Last())
				}
				m.drain()
				same(t, o, m, "alone")
			}
			for _, p := range processes() {
				if p != me && o.Take(message(p, 1, 1, 1)) != api.ErrNone {
					t.Errorf("me %d: of %d", me, p)
				}
			}
		}
	}
}

// P14.2: Next, Drain, Done, Dones, Last, Rest.

// step: a call, and behind it what was delivered by it, and what is left.
type step struct {
	c         call
	up        []string
	rest      []string
	last      api.Key
	all, safe uint64
}

var rows = []struct {
	what    string
	me      int
	members set.Set
	ahead   []call
	row     []step
}{
	{"of one stamp, by senders", 0, bits(0, 1, 2), []call{take(2, 1, 4, 1), take(1, 1, 4, 0), take(0, 1, 4, 1)}, []step{
		{next(), []string{"0.1"}, []string{"1.1", "2.1"}, api.Key{Stamp: 4}, 4, 0},
		{next(), []string{"1.1"}, []string{"2.1"}, api.Key{Stamp: 4, From: 1}, 4, 0},
		{next(), []string{"2.1"}, nil, api.Key{Stamp: 4, From: 2}, 4, 0},
		{next(), nil, nil, api.Key{Stamp: 4, From: 2}, 4, 0},
		{drain(), nil, nil, api.Key{Stamp: 4, From: 2}, 4, 0},
	}},
	{"just the horizon, and one more", 0, bits(0, 1, 2), []call{take(1, 1, 5, 1), take(1, 2, 6, 1)}, []step{
		{drain(), nil, []string{"1.1", "1.2"}, api.Key{}, 0, 0},
		{vow(2, 4, 0), nil, []string{"1.1", "1.2"}, api.Key{}, 4, 0},
		{drain(), nil, []string{"1.1", "1.2"}, api.Key{}, 4, 0},
		{vow(2, 5, 0), nil, []string{"1.1", "1.2"}, api.Key{}, 5, 0},
		{drain(), []string{"1.1"}, []string{"1.2"}, api.Key{Stamp: 5, From: 1}, 5, 0},
		{next(), nil, []string{"1.2"}, api.Key{Stamp: 5, From: 1}, 5, 0},
		{vow(2, 6, 1), nil, []string{"1.2"}, api.Key{Stamp: 5, From: 1}, 5, 0},
		{next(), nil, []string{"1.2"}, api.Key{Stamp: 5, From: 1}, 5, 0},
		{take(2, 1, 6, 0), nil, []string{"1.2", "2.1"}, api.Key{Stamp: 5, From: 1}, 6, 0},
		{drain(), []string{"1.2", "2.1"}, nil, api.Key{Stamp: 6, From: 2}, 6, 0},
	}},
	{"just the safe mark, and one more", 0, bits(0, 1, 2), joined([]call{take(1, 1, 5, 2), take(1, 2, 6, 2)}, heardUpTo(9, 4, 2), []call{vow(1, 9, 2), see(9)}), []step{
		{drain(), nil, []string{"1.1", "1.2"}, api.Key{}, 9, 0},
		{reached(1, 9), nil, []string{"1.1", "1.2"}, api.Key{}, 9, 4},
		{drain(), nil, []string{"1.1", "1.2"}, api.Key{}, 9, 4},
		{reached(2, 5), nil, []string{"1.1", "1.2"}, api.Key{}, 9, 5},
		{drain(), []string{"1.1"}, []string{"1.2"}, api.Key{Stamp: 5, From: 1}, 9, 5},
		{next(), nil, []string{"1.2"}, api.Key{Stamp: 5, From: 1}, 9, 5},
		{reached(2, 6), nil, []string{"1.2"}, api.Key{Stamp: 5, From: 1}, 9, 6},
		{next(), []string{"1.2"}, nil, api.Key{Stamp: 6, From: 1}, 9, 6},
	}},
	{"one that isn't safe, behind a safe one", 0, bits(0, 1, 2), joined([]call{take(1, 1, 5, 2), take(2, 1, 6, 1)}, heardUpTo(9, 4, 1, 2), []call{vow(1, 9, 1), vow(2, 9, 1)}), []step{
		{next(), nil, []string{"1.1", "2.1"}, api.Key{}, 9, 4},
		{drain(), nil, []string{"1.1", "2.1"}, api.Key{}, 9, 4},
		{reached(1, 5), nil, []string{"1.1", "2.1"}, api.Key{}, 9, 4},
		{drain(), nil, []string{"1.1", "2.1"}, api.Key{}, 9, 4},
		{reached(2, 5), nil, []string{"1.1", "2.1"}, api.Key{}, 9, 5},
		{drain(), []string{"1.1", "2.1"}, nil, api.Key{Stamp: 6, From: 2}, 9, 5},
	}},
	{"one that isn't safe, of one stamp with a safe one behind it", 0, bits(0, 1, 2), joined([]call{take(2, 1, 5, 2), take(1, 1, 5, 1)}, heardUpTo(9, 4, 1, 2)), []step{
		{drain(), []string{"1.1"}, []string{"2.1"}, api.Key{Stamp: 5, From: 1}, 9, 4},
		{next(), nil, []string{"2.1"}, api.Key{Stamp: 5, From: 1}, 9, 4},
	}},
	{"one that isn't safe, of one stamp with a safe one ahead of it", 0, bits(0, 1, 2), joined([]call{take(2, 1, 5, 1), take(1, 1, 5, 2)}, heardUpTo(9, 4, 1, 2)), []step{
		{drain(), nil, []string{"1.1", "2.1"}, api.Key{}, 9, 4},
	}},
	{"one that isn't safe, ahead of a safe one", 0, bits(0, 1, 2), joined([]call{take(1, 1, 6, 2), take(2, 1, 5, 1), take(2, 2, 7, 0)}, heardUpTo(9, 5, 1, 2)), []step{
		{drain(), []string{"2.1"}, []string{"1.1", "2.2"}, api.Key{Stamp: 5, From: 2}, 9, 5},
	}},
	{"a safe one of me, ahead of others", 1, bits(0, 1, 2), joined([]call{take(1, 1, 4, 2), take(1, 2, 5, 1), take(0, 1, 6, 1)}, heardUpTo(9, 3, 2), []call{reached(0, 9)}), []step{
		{drain(), nil, []string{"1.1", "1.2", "0.1"}, api.Key{}, 6, 3},
		{reached(2, 4), nil, []string{"1.1", "1.2", "0.1"}, api.Key{}, 6, 4},
		{next(), []string{"1.1"}, []string{"1.2", "0.1"}, api.Key{Stamp: 4, From: 1}, 6, 4},
		{drain(), []string{"1.2", "0.1"}, nil, api.Key{Stamp: 6}, 6, 4},
	}},
	{"a head that isn't ripe ahead of one that is", 0, bits(0, 1), joined([]call{take(1, 1, 7, 2), take(0, 1, 8, 1), take(1, 2, 9, 0)}, heardUpTo(20, 6, 1)), []step{
		{drain(), nil, []string{"1.1", "0.1", "1.2"}, api.Key{}, 20, 6},
		{see(30), nil, []string{"1.1", "0.1", "1.2"}, api.Key{}, 20, 6},
		{drain(), nil, []string{"1.1", "0.1", "1.2"}, api.Key{}, 20, 6},
	}},
	{"the heads alone count, where stamps fall", 0, bits(0, 1), []call{take(1, 1, 7, 1), take(1, 2, 2, 1), take(0, 1, 5, 1)}, []step{
		{next(), []string{"0.1"}, []string{"1.2", "1.1"}, api.Key{Stamp: 5}, 7, 0},
		{next(), []string{"1.1"}, []string{"1.2"}, api.Key{Stamp: 7, From: 1}, 7, 0},
		{next(), []string{"1.2"}, nil, api.Key{Stamp: 2, From: 1}, 7, 0},
	}},
	{"a head that isn't ripe, where stamps fall", 0, bits(0, 1, 2), []call{take(1, 1, 7, 1), take(1, 2, 2, 1), vow(2, 5, 0)}, []step{
		{drain(), nil, []string{"1.2", "1.1"}, api.Key{}, 5, 0},
		{vow(2, 7, 0), nil, []string{"1.2", "1.1"}, api.Key{}, 7, 0},
		{drain(), []string{"1.1", "1.2"}, nil, api.Key{Stamp: 2, From: 1}, 7, 0},
	}},
	{"the stamp 0", 0, bits(0, 1, 2), []call{take(2, 1, 0, 2), take(1, 1, 0, 1), take(0, 1, 0, 2), take(1, 2, 1, 0)}, []step{
		{drain(), []string{"0.1", "1.1", "2.1"}, []string{"1.2"}, api.Key{From: 2}, 0, 0},
	}},
	{"the greatest stamp", 0, bits(0, 1), []call{take(1, 1, math.MaxUint64-1, 1), take(1, 2, math.MaxUint64, 2)}, []step{
		{drain(), []string{"1.1"}, []string{"1.2"}, api.Key{Stamp: math.MaxUint64 - 1, From: 1}, math.MaxUint64, 0},
		{reached(1, math.MaxUint64-1), nil, []string{"1.2"}, api.Key{Stamp: math.MaxUint64 - 1, From: 1}, math.MaxUint64, math.MaxUint64 - 1},
		{drain(), nil, []string{"1.2"}, api.Key{Stamp: math.MaxUint64 - 1, From: 1}, math.MaxUint64, math.MaxUint64 - 1},
		{reached(1, math.MaxUint64), nil, []string{"1.2"}, api.Key{Stamp: math.MaxUint64 - 1, From: 1}, math.MaxUint64, math.MaxUint64},
		{drain(), []string{"1.2"}, nil, api.Key{Stamp: math.MaxUint64, From: 1}, math.MaxUint64, math.MaxUint64},
	}},
	{"odd services are no safe ones", 0, bits(0, 1), []call{take(1, 1, 1, -1), take(1, 2, 2, 3), take(1, 3, 3, math.MaxInt), take(1, 4, 4, 2+1<<32), take(1, 5, 5, 2)}, []step{
		{drain(), []string{"1.1", "1.2", "1.3", "1.4"}, []string{"1.5"}, api.Key{Stamp: 4, From: 1}, 5, 0},
	}},
	{"one that nobody was heard of holds all up", 0, bits(0, 1, 63), []call{take(1, 1, 1, 1), take(0, 1, 2, 1)}, []step{
		{drain(), nil, []string{"1.1", "0.1"}, api.Key{}, 0, 0},
		{vow(63, 1, 0), nil, []string{"1.1", "0.1"}, api.Key{}, 1, 0},
		{drain(), []string{"1.1"}, []string{"0.1"}, api.Key{Stamp: 1, From: 1}, 1, 0},
		{vow(63, 9, 0), nil, []string{"0.1"}, api.Key{Stamp: 1, From: 1}, 1, 0},
		{vow(1, 9, 1), nil, []string{"0.1"}, api.Key{Stamp: 1, From: 1}, 9, 0},
		{drain(), []string{"0.1"}, nil, api.Key{Stamp: 2}, 9, 0},
	}},
	{"what no member sent is never next", 0, bits(0, 1), []call{put(2, 1, 1, 1), put(63, 1, 0, 1), take(1, 1, 3, 1)}, []step{
		{drain(), []string{"1.1"}, []string{"63.1", "2.1"}, api.Key{Stamp: 3, From: 1}, 3, 0},
		{trim(2, 9), nil, []string{"63.1", "2.1"}, api.Key{Stamp: 3, From: 1}, 3, 0},
		{drop(63, 9), nil, []string{"2.1"}, api.Key{Stamp: 3, From: 1}, 3, 0},
	}},
	{"put past Take it waits till its stamp was heard", 0, bits(0, 1), []call{put(1, 1, 3, 1), put(0, 1, 2, 1)}, []step{
		{drain(), nil, []string{"0.1", "1.1"}, api.Key{}, 0, 0},
		{take(1, 2, 3, 1), nil, []string{"0.1", "1.1", "1.2"}, api.Key{}, 3, 0},
		{drain(), []string{"0.1", "1.1", "1.2"}, nil, api.Key{Stamp: 3, From: 1}, 3, 0},
	}},
	{"what was dropped isn't next", 0, bits(0, 1), []call{take(1, 1, 1, 1), take(1, 2, 2, 1), take(1, 3, 3, 1), take(1, 4, 4, 1), drop(1, 2)}, []step{
		{next(), []string{"1.3"}, []string{"1.4"}, api.Key{Stamp: 3, From: 1}, 4, 0},
		{trim(1, 1), nil, []string{"1.4"}, api.Key{Stamp: 3, From: 1}, 4, 0},
		{next(), []string{"1.4"}, nil, api.Key{Stamp: 4, From: 1}, 4, 0},
		{drain(), nil, nil, api.Key{Stamp: 4, From: 1}, 4, 0},
		{trim(1, 9), nil, nil, api.Key{Stamp: 4, From: 1}, 4, 0},
		{take(1, 5, 5, 0), nil, []string{"1.5"}, api.Key{Stamp: 4, From: 1}, 5, 0},
		{drain(), []string{"1.5"}, nil, api.Key{Stamp: 5, From: 1}, 5, 0},
	}},
	{"a drop past what was delivered", 0, bits(0, 1), []call{take(1, 1, 1, 1), next(), take(1, 2, 2, 1), take(1, 3, 3, 1), drop(1, 2)}, []step{
		{drain(), []string{"1.3"}, nil, api.Key{Stamp: 3, From: 1}, 3, 0},
	}},
}

func TestRows(t *testing.T) {
	for _, x := range rows {
		o, m := both(t, x.what, x.me, x.members, x.ahead...)
		for i, s := range x.row {
			c := state(o)
			do(t, o, m, s.c, x.what)
			same(t, o, m, fmt.Sprint(x.what, ", behind the step ", i))
			var up []api.Message
			switch s.c.by {
			case "Next":
				if y, ok := c.Next(); ok {
					up = append(up, y)
				}
			case "Drain":
				up = c.Drain()
			}
			if !slices.Equal(names(up), append([]string{}, s.up...)) || !slices.Equal(names(o.Rest()), append([]string{}, s.rest...)) {
				t.Errorf("%s: the step %d: delivered %v, left %v, want %v, %v", x.what, i, names(up), names(o.Rest()), s.up, s.rest)
			}
			if o.Last() != s.last || o.All() != s.all || o.Safe() != s.safe {
				t.Errorf("%s: the step %d: Last() = %v, All() = %d, Safe() = %d, want %v, %d, %d", x.what, i, o.Last(), o.All(), o.Safe(), s.last, s.all, s.safe)
			}
		}
	}
}

// Whichever services, stamps and marks two heads have: the one of the lesser key is next, and only it may be ripe.
func TestTwoHeads(t *testing.T) {
	for _, a := range []uint64{3, 4, 5, 6} {
		for _, b := range []uint64{3, 4, 5, 6} {
			for services := range 9 {
				for _, safe := range []uint64{0, 3, 4, 5, 6} {
					for _, all := range []uint64{3, 4, 5, 6} {
						row := joined([]call{put(0, 1, a, services%3), put(2, 1, b, services/3), see(9)}, heardUpTo(all, safe, 0, 2))
						both(t, "two heads", 1, bits(0, 1, 2), append(row, next(), next(), next())...)
					}
				}
			}
		}
	}
}

// Each member alone may be the one whose head is next.
func TestTheHeadOfEachMember(t *testing.T) {
	for _, me := range []int{0, 5, 63} {
		for p := range 64 {
			o := New(me, math.MaxUint64)
			for q := 63; q >= 0; q-- {
				s := uint64(9)
				if q == p {
					s = 8
				}
				if e := o.Take(message(q, 1, s, 1)); e != api.OK {
					t.Fatal(q, e)
				}
			}
			// All but p are heard up to 9, and p up to 8.
			m, ok := o.Next()
			if !ok && p != me || ok && m.From != p || o.Done(p) != 1 {
				t.Fatalf("me %d: of %d: Next() = %+v, %v", me, p, m, ok)
			}
			o.Promise(p, 9, 1)
			want := []string{}
			for q := range 64 {
				if q != p {
					want = append(want, fmt.Sprint(q, ".1"))
				}
			}
			if l := names(o.Drain()); !slices.Equal(l, want) || o.Done(p) != 1 || len(o.Rest()) != 0 {
				t.Fatalf("me %d: behind %d: %v", me, p, l)
			}
		}
	}
}

func TestAllSixtyFourMembers(t *testing.T) {
	o, m := New(7, math.MaxUint64), &told{me: 7, members: math.MaxUint64}
	for seq := uint32(1); seq <= 4; seq++ {
		for i := range 64 {
			p := i * 37 % 64
			do(t, o, m, take(p, seq, uint64(seq)*10+uint64(p%5), p%2), "all")
		}
		same(t, o, m, "all")
		do(t, o, m, drain(), "all")
		do(t, o, m, trim(int(seq), seq), "all")
		same(t, o, m, "all, drained")
	}
	for p := range 64 {
		do(t, o, m, vow(p, 99, 4), "all")
	}
	do(t, o, m, drain(), "all")
	same(t, o, m, "all, at the end")
	if l := o.Dones(64); !slices.Equal(l, slices.Repeat([]uint32{4}, 64)) || o.Last() != (api.Key{Stamp: 44, From: 59}) {
		t.Errorf("Dones = %v, Last = %v", l, o.Last())
	}
}

func TestDone(t *testing.T) {
	o, _ := both(t, "done", 1, bits(0, 2, 63), joined(heardUpTo(9, 9, 0, 2, 63), []call{
		take(0, 1, 1, 1), take(0, 2, 2, 2), take(0, 3, 50, 1), take(63, 1, 3, 1), take(1, 1, 4, 1), take(2, 1, 60, 0), put(40, 1, 1, 1), drain(), trim(0, 1),
	})...)
	want := map[int]uint32{0: 2, 1: 1, 63: 1}
	for _, p := range processes() {
		if o.Done(p) != want[p] {
			t.Errorf("Done(%d) = %d, want %d", p, o.Done(p), want[p])
		}
	}
	for _, x := range []struct{ n, size int }{
		{math.MinInt, 0}, {-1 << 32, 0}, {-1<<32 + 2, 0}, {-64, 0}, {-1, 0}, {0, 0}, {1, 1}, {2, 2}, {5, 5}, {32, 32}, {62, 62}, {63, 63}, {64, 64}, {65, 64}, {66, 64}, {128, 64}, {1 << 31, 64}, {1 << 32, 64}, {1<<32 + 2, 64}, {math.MaxInt, 64},
	} {
		l := o.Dones(x.n)
		if len(l) != x.size {
			t.Errorf("Dones(%d) has %d", x.n, len(l))
		}
		for p, n := range l {
			if n != want[p] {
				t.Errorf("Dones(%d)[%d] = %d, want %d", x.n, p, n, want[p])
			}
		}
	}
}

// Last is the key of what was delivered last, whatever is taken, trimmed or dropped behind it.
func TestLast(t *testing.T) {
	o, m := both(t, "last", 0, bits(0, 1), take(1, 1, 4, 1), take(0, 1, 4, 1))
	for _, x := range []struct {
		c    call
		want api.Key
	}{
		{see(9), api.Key{}},
		{next(), api.Key{Stamp: 4}},
		{take(1, 2, 6, 1), api.Key{Stamp: 4}},
		{trim(0, 1), api.Key{Stamp: 4}},
		{next(), api.Key{Stamp: 4, From: 1}},
		{take(0, 2, 12, 1), api.Key{Stamp: 4, From: 1}},
		{drain(), api.Key{Stamp: 6, From: 1}},
		{next(), api.Key{Stamp: 6, From: 1}},
		{drop(1, 2), api.Key{Stamp: 6, From: 1}},
		{drop(0, 2), api.Key{Stamp: 6, From: 1}},
		{drain(), api.Key{Stamp: 6, From: 1}},
	} {
		do(t, o, m, x.c, "last")
		if o.Last() != x.want {
			t.Errorf("behind %s: Last() = %v, want %v", x.c.by, o.Last(), x.want)
		}
		same(t, o, m, "last")
	}
}

func TestRest(t *testing.T) {
	ahead := []call{take(2, 1, 9, 1), take(0, 1, 4, 1), take(63, 1, 4, 2), take(0, 2, 4, 1), take(1, 1, 4, 0), take(0, 3, 12, 1), take(2, 2, 8, 1), put(30, 1, 0, 1), put(30, 2, 4, 2)}
	for _, x := range []struct {
		what string
		row  []call
		want []string
	}{
		{"all", nil, []string{"30.1", "0.1", "0.2", "1.1", "30.2", "63.1", "2.2", "2.1", "0.3"}},
		{"the first one was delivered", []call{next()}, []string{"30.1", "0.2", "1.1", "30.2", "63.1", "2.2", "2.1", "0.3"}},
		{"some were", []call{next(), next(), next()}, []string{"30.1", "30.2", "63.1", "2.2", "2.1", "0.3"}},
		{"some were, and trimmed", []call{drain(), trim(0, 1), trim(1, 1)}, []string{"30.1", "30.2", "63.1", "2.2", "2.1", "0.3"}},
		{"none was, and they are trimmed", []call{trim(0, 9), trim(1, 9), trim(63, 9)}, []string{"30.1", "0.1", "0.2", "1.1", "30.2", "63.1", "2.2", "2.1", "0.3"}},
		{"some were dropped", []call{drop(0, 2), drop(30, 1), drop(2, 1)}, []string{"1.1", "30.2", "63.1", "2.2", "0.3"}},
		{"all members' were delivered", []call{vow(0, 99, 3), vow(2, 99, 2), vow(63, 99, 1), reached(0, 99), reached(2, 99), reached(63, 99), drain()}, []string{"30.1", "30.2"}},
		{"and those of no member were dropped", []call{vow(0, 99, 3), vow(2, 99, 2), vow(63, 99, 1), reached(0, 99), reached(2, 99), reached(63, 99), drain(), drop(30, 2)}, nil},
	} {
		o, _ := both(t, x.what, 1, bits(0, 2, 63), append(slices.Clone(ahead), x.row...)...)
		if l := names(o.Rest()); !slices.Equal(l, append([]string{}, x.want...)) {
			t.Errorf("%s: Rest() = %v, want %v", x.what, l, x.want)
		}
	}
}

// All fields are delivered as they were taken.
func TestAllFieldsAreDeliveredAsTheyWereTaken(t *testing.T) {
	o := New(0, bits(0, 63))
	var want []api.Message
	for i, x := range []api.Message{
		{}, {Service: -1}, {Service: math.MaxInt}, {Deps: []uint32{}}, {Deps: []uint32{0}}, {Deps: []uint32{0, 1 << 31, math.MaxUint32}}, {Deps: make([]uint32, 3000)}, {Payload: "\x00\xff"}, {Payload: string(make([]byte, 40000))}, {Service: 1, Deps: []uint32{1, 2, 3}, Payload: "all"},
	} {
		x.From, x.Seq, x.Stamp = 63, uint32(i+1), uint64(i)
		if e := o.Take(x); e != api.OK {
			t.Fatal(i, e)
		}
		want = append(want, x)
	}
	if l := o.Rest(); !alike(l, want) {
		t.Errorf("Rest() = %v", names(l))
	}
	if l := o.Drain(); !alike(l, want) {
		t.Errorf("Drain() = %v", names(l))
	}
}

// P14.3: Trim, Copy.

func TestTrim(t *testing.T) {
	for _, x := range []struct {
		what string
		p    int
		upto uint32
		low  uint32 // of the process 0, of which 5 were taken, 3 delivered and 1 trimmed
	}{
		{"0", 0, 0, 1},
		{"what was trimmed", 0, 1, 1},
		{"one more", 0, 2, 2},
		{"all that was delivered", 0, 3, 3},
		{"one that wasn't", 0, 4, 3},
		{"all that was taken", 0, 5, 3},
		{"more than that", 0, 6, 3},
		{"far more", 0, 1 << 31, 3},
		{"the greatest number", 0, math.MaxUint32, 3},
		{"one of whom nothing was delivered", 2, 9, 1},
		{"one of whom nothing was delivered, the greatest number", 2, math.MaxUint32, 1},
		{"one without messages", 62, 9, 1},
		{"me", 1, 9, 1},
		{"no member", 3, 9, 1},
		{"no member that has messages", 30, 9, 1},
		{"below all processes", -1, 9, 1},
		{"64 below the process", -64, 9, 1},
		{"above all processes", 64, 9, 1},
		{"64 above one", 65, 9, 1},
		{"2^32 above the process", 1 << 32, 9, 1},
		{"the least process", math.MinInt, 9, 1},
		{"the greatest process", math.MaxInt, math.MaxUint32, 1},
	} {
		o, m := both(t, x.what, 1, bits(0, 2, 62), take(0, 1, 1, 1), take(0, 2, 2, 1), take(0, 3, 3, 1), take(0, 4, 9, 1), take(0, 5, 10, 1), take(2, 1, 20, 1), take(1, 1, 3, 1), vow(62, 8, 0), put(30, 1, 1, 1), drain(), trim(0, 1))
		rest, dones := names(o.Rest()), o.Dones(64)
		for range 2 { // the same once more trims nothing
			do(t, o, m, trim(x.p, x.upto), x.what)
			same(t, o, m, x.what)
			var mine uint32
			if x.p == 1 {
				mine = 1
			}
			if o.Low(0) != x.low || o.Low(1) != mine || o.Low(2) != 0 || o.Low(30) != 0 || o.Low(62) != 0 {
				t.Errorf("%s: Low(0) = %d, want %d; Low(1) = %d, Low(2) = %d, Low(30) = %d", x.what, o.Low(0), x.low, o.Low(1), o.Low(2), o.Low(30))
			}
			if !slices.Equal(names(o.Rest()), rest) || !slices.Equal(o.Dones(64), dones) || o.Count(0) != 5 {
				t.Errorf("%s: Rest() = %v, and was %v", x.what, names(o.Rest()), rest)
			}
		}
		do(t, o, m, trim(x.p, 1), x.what+", and less")
		same(t, o, m, x.what+", and less")
		for _, c := range []call{vow(62, 99, 0), vow(2, 99, 1), vow(0, 99, 5), drain(), trim(x.p, x.upto)} {
			do(t, o, m, c, x.what+", and then all")
			same(t, o, m, x.what+", and then all")
		}
	}
}

// A trim that came too early isn't kept for later.
func TestTrimAheadOfDelivery(t *testing.T) {
	o, m := both(t, "early", 0, bits(0, 1, 2), take(1, 1, 1, 1), take(1, 2, 2, 1), trim(1, 2), trim(1, 9), vow(2, 5, 0))
	for n := range uint32(2) {
		if o.Low(1) != n {
			t.Errorf("ahead of %d: Low(1) = %d", n+1, o.Low(1))
		}
		do(t, o, m, next(), "early")
		if o.Low(1) != n || o.Done(1) != n+1 {
			t.Errorf("behind %d: Low(1) = %d, Done(1) = %d", n+1, o.Low(1), o.Done(1))
		}
		do(t, o, m, trim(1, 9), "early")
		same(t, o, m, "early")
	}
}

// beginnings: what was told to that which is copied.
var beginnings = [][]call{
	nil,
	{take(0, 1, 4, 1), take(2, 1, 5, 2), take(1, 1, 6, 1)},
	{take(0, 1, 4, 1), take(0, 2, 7, 2), take(2, 1, 5, 1), vow(63, 20, 0), next()},
	{take(0, 1, 4, 1), take(2, 1, 5, 1), take(63, 1, 5, 0), vow(0, 9, 3), vow(63, 12, 2), drain(), trim(0, 1), reached(0, 4), reached(63, 3)},
	{put(0, 1, 3, 2), put(30, 1, 1, 1), take(63, 1, 3, 1), take(2, 1, 3, 1), drop(63, 1), vow(2, 50, 2)},
}

func TestCopiesGoTheirOwnWays(t *testing.T) {
	one := []func(m *told) call{
		takes(0, 30, 1), takes(2, 31, 1), func(*told) call { return vow(63, 40, 0) }, func(*told) call { return drain() }, func(*told) call { return trim(0, 1) }, func(*told) call { return stamp() }, takes(63, 33, 2), func(*told) call { return reached(2, 50) }, func(*told) call { return drop(2, 1) }, takes(1, 35, 1), func(*told) call { return drain() }, func(*told) call { return trim(2, 9) },
	}
	other := []func(m *told) call{
		func(*told) call { return next() }, takes(63, 32, 1), takes(0, 33, 2), takes(2, 44, 0), func(*told) call { return vow(63, 44, 1) }, func(*told) call { return reached(0, 60) }, func(*told) call { return drain() }, func(*told) call { return trim(63, 1) }, func(*told) call { return see(70) }, takes(30, 1, 1), func(*told) call { return drop(0, 9) }, func(*told) call { return drain() },
	}
	for _, members := range []set.Set{bits(0, 2, 63), bits(0, 1, 2, 63), math.MaxUint64} {
		for i, row := range beginnings {
			what := fmt.Sprint("the beginning ", i)
			o, m := both(t, what, 1, members, row...)
			c, mc := o.Copy(), m.copy()
			unchanged(t, c, state(o), what+": a copy")
			same(t, c, mc, what+": a copy")
			for k := range one { // by turns, so that each may spoil what the other one has
				do(t, o, m, one[k](m), what)
				same(t, c, mc, what+": a copy, while the other one went on")
				do(t, c, mc, other[k](mc), what)
				same(t, o, m, what+": what was copied, while the copy went on")
				same(t, c, mc, what+": the copy")
			}
			d, md := c.Copy(), mc.copy()
			for _, p := range []int{0, 2, 63} {
				do(t, c, mc, vow(p, 999, 0), what)
				do(t, c, mc, drop(p, 99), what)
			}
			do(t, c, mc, drain(), what)
			same(t, d, md, what+": a copy of a copy")
			same(t, c, mc, what+": a copy")
			same(t, o, m, what+": what was copied")
		}
	}
}

// takes: a process's next message is taken.
func takes(p int, stamp uint64, service int) func(m *told) call {
	return func(m *told) call { return take(p, m.count(p)+1, stamp, service) }
}

// What was delivered goes its own way, too: of both all come, each once.
func TestCopiesDeliverTheirOwn(t *testing.T) {
	for _, copyFirst := range []bool{false, true} {
		for n := range 7 { // so many are delivered ahead of the copy
			o, m := both(t, "their own", 0, bits(0, 1, 2), take(1, 1, 1, 1), take(2, 1, 2, 1), take(0, 1, 3, 1), take(1, 2, 4, 1), take(2, 2, 5, 1), take(1, 3, 6, 1), vow(2, 9, 2), see(9))
			all := []string{"1.1", "2.1", "0.1", "1.2", "2.2", "1.3"}
			for range n {
				do(t, o, m, next(), "ahead")
			}
			a, ma, b, mb := o, m, o.Copy(), m.copy()
			if copyFirst {
				a, ma, b, mb = b, mb, a, ma
			}
			l := a.Drain()
			ma.drain()
			if !slices.Equal(names(l), all[n:]) {
				t.Errorf("behind %d: %v", n, names(l))
			}
			for p := range 3 {
				do(t, a, ma, trim(p, 9), "the first one")
			}
			same(t, b, mb, "the second one")
			l = b.Drain()
			mb.drain()
			if !slices.Equal(names(l), all[n:]) {
				t.Errorf("behind %d, the second one: %v", n, names(l))
			}
			same(t, a, ma, "the first one")
			same(t, b, mb, "the second one")
		}
	}
}

func TestOrdersAreOfTheirOwn(t *testing.T) {
	o, m := both(t, "an order", 0, bits(0, 1), take(1, 1, 4, 1), next())
	other, mo := both(t, "another one", 0, bits(0, 1), take(1, 1, 3, 1), take(1, 2, 9, 1))
	do(t, o, m, take(1, 2, 6, 1), "an order")
	do(t, o, m, drain(), "an order")
	same(t, other, mo, "the other one")
	do(t, other, mo, drain(), "the other one")
	do(t, other, mo, trim(1, 2), "the other one")
	same(t, o, m, "an order")
}

// What is told past the order, to its hold or its horizon, is told to it.
func TestItsHoldAndItsHorizonAreItsOwn(t *testing.T) {
	o, m := both(t, "its own", 0, bits(0, 1), take(1, 1, 4, 2))
	o.Horizon.Reached(1, 4)
	m.stamps = append(m.stamps, reached(1, 4))
	same(t, o, m, "the horizon")
	if e := o.Hold.Put(message(0, 1, 2, 1)); e != api.OK || o.Count(0) != 1 {
		t.Errorf("Put = %d, Count(0) = %d", e, o.Count(0))
	}
	m.put(message(0, 1, 2, 1))
	same(t, o, m, "the hold")
	if l := names(o.Drain()); !slices.Equal(l, []string{"0.1", "1.1"}) {
		t.Errorf("Drain() = %v", l)
	}
	if o.Hold.Count(1) != o.Count(1) || o.Horizon.All() != o.All() || o.Hold.Low(1) != 0 {
		t.Error("they differ")
	}
	o.Trim(1, 1)
	if o.Hold.Low(1) != 1 {
		t.Errorf("Low(1) = %d", o.Hold.Low(1))
	}
}

// What is handed in and what is answered is nobody else's.

func TestWhatIsHandedInIsNotKept(t *testing.T) {
	o := New(0, bits(0, 1))
	for i, p := range []int{1, 0, 2, 64, 1} { // the two ahead of the last one are no members; the last one isn't next
		room := []uint32{10, 20, 30, 77, 78}
		m := message(p, 1, 5, 1)
		m.Deps = room[:3]
		e := o.Take(m)
		if (e == api.OK) != (i < 2) || !slices.Equal(room, []uint32{10, 20, 30, 77, 78}) {
			t.Fatalf("Take of %d.1 = %d, and what was handed in is %v", p, e, room)
		}
		for k := range room { // whoever handed it in works on
			room[k] = 1000
		}
		spoil(o.Copy().Drain())
		spoil(o.Rest())
		if !slices.Equal(room, []uint32{1000, 1000, 1000, 1000, 1000}) {
			t.Errorf("%d.1: what was answered is what was handed in: %v", p, room)
		}
	}
	for _, m := range o.Drain() {
		if !slices.Equal(m.Deps, []uint32{10, 20, 30}) {
			t.Errorf("%d.1: %v", m.From, m.Deps)
		}
	}
	if o.Done(0) != 1 || o.Done(1) != 1 {
		t.Errorf("Dones = %v", o.Dones(2))
	}
}

// spoil: all that these lists have, and their spare room, is written over.
func spoil(l []api.Message) {
	for _, m := range l {
		for k := range m.Deps[:cap(m.Deps)] {
			m.Deps[:cap(m.Deps)][k] = 4000
		}
	}
	for k := range l[:cap(l)] {
		l[:cap(l)][k] = api.Message{From: 5, Seq: 4000}
	}
}

func TestAnswersAreNewMemory(t *testing.T) {
	asks := []func(o *Order) []api.Message{
		func(o *Order) []api.Message { m, _ := o.Next(); return []api.Message{m} },
		func(o *Order) []api.Message { return o.Drain() },
		func(o *Order) []api.Message { return o.Rest() },
		func(o *Order) []api.Message { return o.From(1, 0, 99) },
		func(o *Order) []api.Message { return o.Above(api.Key{}) },
	}
	for i, ask := range asks {
		for k, again := range asks {
			row := []call{take(1, 1, 1, 1), take(1, 2, 2, 1), take(2, 1, 3, 1), take(0, 1, 4, 1), take(1, 3, 7, 1), take(2, 2, 8, 2)}
			o, m := both(t, "answers", 0, bits(0, 1, 2), row...)
			c := o.Copy()
			first := ask(o)
			if i < 2 {
				for range first {
					m.next()
				}
			}
			second := again(o)
			if k < 2 {
				for _, x := range second {
					if x.Seq > 0 {
						m.next()
					}
				}
			}
			kept := slices.Clone(second)
			for j, x := range second {
				kept[j].Deps = slices.Clone(x.Deps)
			}
			spoil(first)
			if !alike(second, kept) {
				t.Fatalf("the answers %d and %d share memory", i, k)
			}
			spoil(second)
			same(t, o, m, fmt.Sprintf("behind the answers %d and %d", i, k))
			if l := c.Drain(); !slices.Equal(names(l), []string{"1.1", "1.2", "2.1", "0.1", "1.3"}) || !alike(l[:1], []api.Message{row[0].m}) {
				t.Fatalf("the answers %d and %d: the copy delivers %+v", i, k, l)
			}
		}
	}
	o, m := both(t, "numbers", 0, bits(0, 1), take(1, 1, 1, 1), drain())
	l := o.Dones(2)
	for k := range l[:cap(l)] {
		l[:cap(l)][k] = 99
	}
	same(t, o, m, "numbers")
}

// P14.4: where each sender's stamps rise, and promises are kept, keys of what is delivered rise, each message comes once, and what two members deliver is one row, of which one has a beginning.

// All rows of a menu, each on a copy, of which what was copied knows nothing.
func TestAllRowsOfAMenu(t *testing.T) {
	is := func(c call) func(*told) call { return func(*told) call { return c } }
	some := []func(m *told) call{
		takes(0, 4, 1), takes(0, 6, 2), takes(1, 5, 1), takes(1, 4, 2), takes(2, 4, 0), takes(2, 5, 2), is(vow(0, 6, 1)), is(vow(2, 7, 0)), is(reached(0, 5)), is(reached(2, 6)), is(next()), is(drain()), is(trim(0, 1)), is(trim(2, 9)),
	}
	wild := []func(m *told) call{
		takes(0, 4, 1), takes(1, 3, 1), takes(2, 4, 1), takes(0, 9, 1), is(take(0, 1, 2, 1)), is(take(3, 1, 2, 1)), is(vow(2, 9, 0)), is(next()), is(drain()), is(trim(0, 2)), is(drop(0, 1)), is(drop(2, 9)), is(put(0, 2, 3, 1)), is(put(5, 1, 3, 1)), is(see(5)),
	}
	var walk func(o *Order, m *told, menu []func(m *told) call, deep int)
	walk = func(o *Order, m *told, menu []func(m *told) call, deep int) {
		same(t, o, m, "a row")
		if deep == 0 {
			return
		}
		was := state(o)
		for _, f := range menu {
			c, mc := o.Copy(), m.copy()
			do(t, c, mc, f(m), "a row")
			walk(c, mc, menu, deep-1)
		}
		unchanged(t, o, was, "by a copy's calls")
	}
	for _, x := range []struct {
		me      int
		members set.Set
		menu    []func(m *told) call
		deep    int
		row     []call
	}{
		{1, 7, some, 3, nil},
		{1, 5, some, 3, []call{take(0, 1, 2, 1), take(2, 1, 3, 2), take(1, 1, 3, 1), vow(0, 10, 2)}},
		{1, 5, some, 3, []call{take(0, 1, 2, 1), take(0, 2, 3, 1), take(2, 1, 3, 1), drain(), reached(0, 9), vow(2, 8, 2)}},
		{64, 7, some, 2, nil},
		{1, 2, some, 3, nil},
		{1, math.MaxUint64, some, 2, nil},
		{1, 7, wild, 3, nil},
		{1, 7, wild, 3, []call{take(0, 1, 1, 1), take(0, 2, 2, 1), take(2, 1, 2, 1), take(0, 3, 5, 1), next()}},
	} {
		o, m := both(t, "rows", x.me, x.members, x.row...)
		walk(o, m, x.menu, x.deep)
	}
}

// Rows that look like chance, of all members, stamps and services, some of them wrong.
func TestRowsThatLookLikeChance(t *testing.T) {
	for seed := range 60 {
		d := turned(seed)
		me, members := whose[d.below(len(whose))], circles[seed%len(circles)]
		if d.below(2) == 0 { // few members, of whom much is told
			me, members = d.below(4), set.Set(d.below(16))
		}
		o, m := New(me, members), &told{me: me, members: members}
		who := append(m.others(), m.others()...)
		who = append(who, me, me, me, 5)
		wrong := d.below(2) == 0
		for k := range 150 {
			p := who[d.below(len(who))]
			s := uint64(k/2 + d.below(12))
			c := []call{takes(p, s, d.below(3))(m), takes(p, s, d.below(3))(m), takes(p, s, 1)(m), vow(p, s, m.count(p)), vow(p, s+3, m.count(p)+uint32(d.below(2))), reached(p, s), drain(), next(), trim(p, m.done(p)+uint32(d.below(3))), stamp()}[d.below(10)]
			if wrong && d.below(8) == 0 {
				c = []call{take(p, m.count(p)+uint32(d.below(4)), s, 1), take(odd[d.below(len(odd))], 1, s, 1), drop(p, m.done(p)+uint32(d.below(4))), put(d.below(64), 1, s, 1), trim(odd[d.below(len(odd))], 9), came(p, uint32(d.below(4)), s), see(s)}[d.below(7)]
			}
			do(t, o, m, c, fmt.Sprint("chance ", seed))
			if k%4 == 0 {
				same(t, o, m, fmt.Sprint("chance ", seed))
			}
		}
		same(t, o.Copy(), m, "chance, copied")
	}
}

// ack: what a member tells the others: its clock, how many it sent, its horizon.
type ack struct {
	from    int
	clock   uint64
	sent    uint32
	horizon uint64
}

// circle: members that send, acknowledge and take between each other; a sender's messages are taken in their order.
type circle struct {
	who  []int
	o    map[int]*Order
	twin map[int]*Order // is told the same, but never trimmed
	sent map[int][]api.Message
	up   map[int][]api.Message // what each one delivered
	acks []ack
}

func newCircle(who ...int) *circle {
	c := &circle{who: who, o: map[int]*Order{}, twin: map[int]*Order{}, sent: map[int][]api.Message{}, up: map[int][]api.Message{}}
	for _, p := range who {
		c.o[p], c.twin[p] = New(p, bits(who...)), New(p, bits(who...))
	}
	return c
}

// send: p sends a message, and takes it itself at once.
func (c *circle) send(t *testing.T, p, service int) {
	t.Helper()
	m := message(p, uint32(len(c.sent[p])+1), c.o[p].Stamp(), service)
	m.Deps = c.o[p].Dones(5)
	c.twin[p].Stamp()
	c.sent[p] = append(c.sent[p], m)
	c.take(t, p, p)
}

// take: p takes q's next message, if it was sent.
func (c *circle) take(t *testing.T, p, q int) {
	t.Helper()
	n := c.o[p].Count(q)
	if int(n) == len(c.sent[q]) {
		return
	}
	for _, o := range []*Order{c.o[p], c.twin[p]} {
		if e := o.Take(c.sent[q][n]); e != api.OK {
			t.Fatalf("%d takes %d.%d: %d", p, q, n+1, e)
		}
	}
}

// tell: p acknowledges what it took.
func (c *circle) tell(p int) ack {
	o := c.o[p]
	return ack{from: p, clock: o.Clock(), sent: o.Count(p), horizon: o.All()}
}

// hear: p is told what another one acknowledged.
func (c *circle) hear(p int, a ack) {
	for _, o := range []*Order{c.o[p], c.twin[p]} {
		o.Promise(a.from, a.clock, a.sent)
		o.Reached(a.from, a.horizon)
	}
}

// deliver: p delivers all that is ripe; what it holds no more plays no part in that.
func (c *circle) deliver(t *testing.T, p int) {
	t.Helper()
	l := c.o[p].Drain()
	if !alike(l, c.twin[p].Drain()) {
		t.Fatalf("%d delivers %v, and another thing where nothing was trimmed", p, names(l))
	}
	for _, m := range l {
		if n := len(c.up[p]); n > 0 && !before(c.up[p][n-1], m) || int(m.Seq) > len(c.sent[m.From]) || !equal(m, c.sent[m.From][m.Seq-1]) {
			t.Fatalf("%d delivers %+v behind %v", p, m, names(c.up[p]))
		}
		for _, q := range c.who { // what is safe is there everywhere
			if m.Service == api.Safe && c.o[q].Count(m.From) < m.Seq {
				t.Fatalf("%d delivers %d.%d, which is safe, and %d has %d", p, m.From, m.Seq, q, c.o[q].Count(m.From))
			}
		}
		c.up[p] = append(c.up[p], m)
	}
	if n := len(c.up[p]); n > 0 && c.o[p].Last() != (api.Key{Stamp: c.up[p][n-1].Stamp, From: c.up[p][n-1].From}) {
		t.Fatalf("%d: Last() = %v", p, c.o[p].Last())
	}
}

// oneRow: of what any two delivered, one is a beginning of the other's.
func (c *circle) oneRow(t *testing.T) {
	t.Helper()
	for _, p := range c.who {
		for _, q := range c.who {
			if n := min(len(c.up[p]), len(c.up[q])); !alike(c.up[p][:n], c.up[q][:n]) {
				t.Fatalf("%d delivered %v, and %d %v", p, names(c.up[p]), q, names(c.up[q]))
			}
		}
		if l := c.o[p].Rest(); !alike(l, c.twin[p].Rest()) || !slices.Equal(c.o[p].Dones(64), c.twin[p].Dones(64)) {
			t.Fatalf("%d has %v left, and another thing where nothing was trimmed", p, names(l))
		}
	}
}

// settled: everybody takes all, and tells all what it took, as often as it needs.
func (c *circle) settled(t *testing.T) {
	t.Helper()
	for range 3 { // the clocks come to one, then the horizons, then the safe marks
		for _, p := range c.who {
			for _, q := range c.who {
				for range c.sent[q] {
					c.take(t, p, q)
				}
			}
		}
		for _, p := range c.who {
			a := c.tell(p)
			for _, q := range c.who {
				c.hear(q, a)
			}
		}
	}
}

// all: what was sent, in the order of the keys.
func (c *circle) all() []api.Message {
	var out []api.Message
	for _, p := range c.who {
		out = append(out, c.sent[p]...)
	}
	slices.SortFunc(out, func(a, b api.Message) int {
		if before(a, b) {
			return -1
		}
		return 1
	})
	return out
}

// Whatever comes late, twice or not at all: what they deliver is one row, and at the end all of it.
func TestHonestSenders(t *testing.T) {
	for seed := range 60 {
		d := turned(900 + seed)
		c := newCircle([][]int{{0, 1}, {62, 63}, {0, 2, 63}, {1, 2, 3, 4}, {5}, {0, 1, 2, 31, 32, 63}}[seed%6]...)
		for range 400 {
			p, q := c.who[d.below(len(c.who))], c.who[d.below(len(c.who))]
			switch d.below(8) {
			case 0:
				c.send(t, p, d.below(3))
			case 1, 2:
				c.take(t, p, q)
			case 3:
				c.acks = append(c.acks, c.tell(p))
			case 4, 5:
				if len(c.acks) > 0 {
					c.hear(p, c.acks[max(0, len(c.acks)-1-d.below(20))])
				}
			case 6:
				c.deliver(t, p)
			case 7:
				c.o[p].Trim(q, uint32(d.below(len(c.sent[q])+2)))
			}
			c.oneRow(t)
		}
		c.settled(t)
		for _, p := range c.who {
			c.deliver(t, p)
			if !alike(c.up[p], c.all()) || len(c.o[p].Rest()) != 0 {
				t.Errorf("seed %d: %d delivered %v, and all is %v", seed, p, names(c.up[p]), names(c.all()))
			}
		}
		c.oneRow(t)
	}
}

// All orders in which some messages of three senders, and what they promise, come to a member.
func TestMessagesInAllOrders(t *testing.T) {
	members := bits(0, 1, 2, 3)
	rows := [][]call{ // of each sender what it says, in its order
		{take(0, 1, 1, 1), take(0, 2, 4, 2), vow(0, 9, 2)},
		{take(1, 1, 1, 0), vow(1, 5, 1), vow(1, 9, 1)},
		{take(2, 1, 3, 2), take(2, 2, 4, 1), vow(2, 9, 2), reached(2, 9)},
	}
	want := []string{"0.1", "1.1", "2.1", "0.2", "2.2"}
	var walk func(o *Order, at [3]int, up []string)
	walk = func(o *Order, at [3]int, up []string) {
		if len(up) > len(want) || !slices.Equal(up, want[:len(up)]) {
			t.Fatalf("at %v: delivered %v", at, up)
		}
		done := true
		for p, row := range rows {
			if at[p] == len(row) {
				continue
			}
			done = false
			c, to := o.Copy(), at
			switch x := row[at[p]]; x.by {
			case "Take":
				if e := c.Take(x.m); e != api.OK {
					t.Fatal(at, p, e)
				}
			case "Promise":
				c.Promise(x.p, x.stamp, x.n)
			case "Reached":
				c.Reached(x.p, x.stamp)
			}
			to[p]++
			walk(c, to, slices.Concat(up, names(c.Drain())))
		}
		if done && !slices.Equal(up, want) {
			t.Fatalf("at the end: delivered %v", up)
		}
	}
	o := New(3, members)
	o.See(9) // me sends nothing
	o.Reached(0, 9)
	o.Reached(1, 9)
	walk(o, [3]int{}, nil)
}

// Many messages, trimmed as they are delivered: each comes once, and what was delivered isn't held.
func TestManyMessages(t *testing.T) {
	const n = 3000
	o := New(0, bits(0, 7, 63))
	for seq := uint32(1); seq <= n; seq++ {
		for _, p := range []int{63, 0, 7} {
			if e := o.Take(message(p, seq, uint64(seq), int(seq)%2)); e != api.OK {
				t.Fatal(p, seq, e)
			}
		}
		if l := o.Drain(); !slices.Equal(names(l), []string{fmt.Sprint("0.", seq), fmt.Sprint("7.", seq), fmt.Sprint("63.", seq)}) {
			t.Fatalf("at %d: %v", seq, names(l))
		}
		for _, p := range []int{0, 7, 63} {
			o.Trim(p, seq-1)
			if o.Low(p) != seq-1 || o.Done(p) != seq || o.Count(p) != seq || len(o.From(p, 0, n)) != 1 {
				t.Fatalf("at %d: Low(%d) = %d, Done = %d", seq, p, o.Low(p), o.Done(p))
			}
		}
	}
	if len(o.Rest()) != 0 || o.Last() != (api.Key{Stamp: n, From: 63}) {
		t.Errorf("Last() = %v", o.Last())
	}
}
