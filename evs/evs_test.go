package evs

import (
	"fmt"
	"go/ast"
	"go/parser"
	"go/token"
	"math"
	"path/filepath"
	"slices"
	"strings"
	"testing"

	"consort/api"
)

// odd: numbers that are no process; the lowest bits of some are those of one.
var odd = []int{math.MinInt, math.MinInt + 1, -1 << 32, -1<<32 + 1, -64, -63, -2, -1, 64, 65, 66, 127, 128, 1 << 31, 1 << 32, 1<<32 + 1, math.MaxInt - 1, math.MaxInt}

// turned: numbers that look like chance, the same ones each time.
type turned uint64

func (d *turned) below(n int) int {
	*d = *d*6364136223846793005 + 1442695040888963407
	return int(uint64(*d) >> 33 % uint64(n))
}

// one: one of these.
func one[T any](d *turned, l ...T) T { return l[d.below(len(l))] }

func name(epoch uint64, rep int) api.Conf { return api.Conf{Epoch: epoch, Rep: rep} }

// of: the members as a number.
func of(l ...int) uint64 { return number(l) }

// msg: a message of a sender, without Deps.
func msg(from int, seq uint32, stamp uint64, service int) api.Message {
	return api.Message{From: from, Seq: seq, Stamp: stamp, Service: service, Payload: fmt.Sprint(from, ".", seq)}
}

// exchange: what a process tells to have of an old configuration.
func exchange(who int, old api.Conf, last api.Key, count ...uint32) api.Exchange {
	return api.Exchange{Who: who, Old: old, Count: count, Last: last}
}

// from: a packet of that process to me, of a kind and a name.
func from(p, me, kind int, c api.Conf) api.Packet {
	return api.Packet{Kind: kind, From: p, To: me, Conf: c}
}

// with: p, changed by f.
func with(p api.Packet, f func(p *api.Packet)) api.Packet {
	f(&p)
	return p
}

func data(p, me int, c api.Conf, x api.Message) api.Packet {
	return with(from(p, me, api.PkData, c), func(p *api.Packet) { p.M = x })
}

func ack(p, me int, c api.Conf, stamp uint64, sent uint32, horizon uint64, got ...uint32) api.Packet {
	return with(from(p, me, api.PkAck, c), func(p *api.Packet) { p.Stamp, p.Sent, p.Horizon, p.Got = stamp, sent, horizon, got })
}

func nack(p, me int, c api.Conf, whom int, seq uint32) api.Packet {
	return with(from(p, me, api.PkNack, c), func(p *api.Packet) { p.Whom, p.Seq = whom, seq })
}

func beat(p, me int, c, prom api.Conf, epoch uint64) api.Packet {
	return with(from(p, me, api.PkBeat, c), func(p *api.Packet) { p.Prom, p.Epoch = prom, epoch })
}

func gathering(p, me int, c api.Conf, members uint64) api.Packet {
	return with(from(p, me, api.PkGather, c), func(p *api.Packet) { p.Members = members })
}

func exchanging(p, me int, c api.Conf, x ...api.Exchange) api.Packet {
	return with(from(p, me, api.PkExchange, c), func(p *api.Packet) { p.X = x })
}

func committing(p, me int, c api.Conf, members uint64, x ...api.Exchange) api.Packet {
	return with(from(p, me, api.PkCommit, c), func(p *api.Packet) { p.Members, p.X = members, x })
}

func asking(p, me int, c api.Conf, whom int, seq uint32) api.Packet {
	return with(from(p, me, api.PkAsk, c), func(p *api.Packet) { p.Whom, p.Seq = whom, seq })
}

func recovering(p, me int, c api.Conf, whom int, x api.Message) api.Packet {
	return with(from(p, me, api.PkRecover, c), func(p *api.Packet) { p.Whom, p.M = whom, x })
}

// written, sent, told: effects, as they should be.
func written(epoch uint64) api.Effect {
	return api.Effect{Kind: api.FxWrite, Packet: api.Packet{Epoch: epoch}}
}

func sent(p api.Packet) api.Effect { return api.Effect{Kind: api.FxSend, Packet: p} }

func event(e api.Event) api.Effect { return api.Effect{Kind: api.FxEvent, Event: e} }

func started(me int) api.Effect { return event(api.Event{Kind: api.EvStart, Proc: me}) }

func regular(me int, c api.Conf, members uint64) api.Effect {
	return event(api.Event{Kind: api.EvRegular, Proc: me, Conf: c, Members: members})
}

func trans(me int, c, to api.Conf, members uint64) api.Effect {
	return event(api.Event{Kind: api.EvTrans, Proc: me, Conf: c, New: to, Members: members})
}

func delivered(me int, c, to api.Conf, x api.Message) api.Effect {
	return event(api.Event{Kind: api.EvDeliver, Proc: me, Conf: c, New: to, M: x})
}

func sending(me int, c api.Conf, x api.Message) api.Effect {
	return event(api.Event{Kind: api.EvSend, Proc: me, Conf: c, M: x})
}

// beats: those that a process sends at a tick, to each of these.
func beats(me int, c, prom api.Conf, epoch uint64, members uint64, to ...int) []api.Effect {
	var out []api.Effect
	for _, q := range to {
		out = append(out, sent(with(beat(me, q, c, prom, epoch), func(p *api.Packet) { p.Members = members })))
	}
	return out
}

// expect: these effects, one by one.
func expect(t *testing.T, what string, got []api.Effect, want ...api.Effect) {
	t.Helper()
	if !alike(got, want) {
		t.Fatalf("%s: answers%s\nwant%s", what, show(got), show(want))
	}
}

var none api.Conf

// P17.1: New, Conf, Members, Open, Epoch, Copy.

func TestTheExample(t *testing.T) {
	v, l := New(0, 2, 3, 8, 0)
	expect(t, "New", l, written(1), started(0), regular(0, name(1, 0), of(0)))
	x := msg(0, 1, 1, api.Agreed)
	x.Deps = []uint32{0, 0}
	l, e := v.Cast(api.Agreed, x.Payload, 0)
	if e != api.OK {
		t.Fatal(e)
	}
	expect(t, "Cast", l, sending(0, name(1, 0), x), delivered(0, name(1, 0), none, x))
}

func TestNew(t *testing.T) {
	for n := 1; n <= 64; n++ {
		for me := range n {
			v, l := New(me, n, 2, 4, 6)
			expect(t, "New", l, written(7), started(me), regular(me, name(7, me), of(me)))
			if v.Conf() != name(7, me) || uint64(v.Members()) != of(me) || !v.Open() || v.Epoch() != 7 {
				t.Fatalf("New(%d, %d): %v, %v, %v, %d", me, n, v.Conf(), v.Members(), v.Open(), v.Epoch())
			}
		}
		for _, me := range append([]int{n, n + 1, 63 + n, 64}, odd...) {
			if v, l := New(me, n, 2, 4, 6); v != nil || len(l) > 0 {
				t.Fatalf("New(%d, %d): %v", me, n, l)
			}
		}
	}
	for _, n := range append([]int{0}, odd...) {
		for _, me := range []int{-1, 0, 1, 63, 64, n - 1, n} {
			if n == 64 {
				continue
			}
			if v, l := New(me, n, 2, 4, 6); v != nil || len(l) > 0 {
				t.Fatalf("New(%d, %d): %v", me, n, l)
			}
		}
	}
}

func TestNewOfAnyEpoch(t *testing.T) {
	for _, e := range []uint64{0, 1, 1<<32 - 1, 1 << 32, 1<<63 - 1, math.MaxUint64 - 1, math.MaxUint64} {
		want := e + 1
		if e == math.MaxUint64 {
			want = e
		}
		v, l := New(2, 4, 1, 1, e)
		expect(t, "New", l, written(want), started(2), regular(2, name(want, 2), of(2)))
		if v.Epoch() != want || v.Conf() != name(want, 2) {
			t.Errorf("of %d: %d, %v", e, v.Epoch(), v.Conf())
		}
	}
}

// Where no epoch is above, an attempt has the greatest one again; all calls go on.
func TestTheGreatestEpoch(t *testing.T) {
	v, m := both(t, 0, 2, 2, 2, math.MaxUint64)
	top := name(math.MaxUint64, 0)
	for range 4 {
		take(t, v, m, beat(1, 0, name(9, 1), name(math.MaxUint64, 1), math.MaxUint64), "a beat")
		tick(t, v, m, "a tick")
	}
	if v.promised != top || v.Epoch() != math.MaxUint64 {
		t.Error(v.promised, v.Epoch())
	}
	take(t, v, m, gathering(1, 0, name(math.MaxUint64, 1), 3), "a newer name")
	if v.Open() || v.promised != name(math.MaxUint64, 1) {
		t.Error(v.promised)
	}
	tick(t, v, m, "a tick")
}

// Any timeout and window: those of the layers below.
func TestTimeoutsAndWindows(t *testing.T) {
	for _, n := range append([]int{0, 1, 2, 3, 63}, odd...) {
		v, m := both(t, 1, 3, n, n, 0)
		for i := range 70 {
			cast(t, v, m, i%3, "x", 0, "a cast")
		}
		for range 3 {
			take(t, v, m, beat(2, 1, name(1, 2), name(1, 2), 1), "a beat")
			tick(t, v, m, "a tick")
			take(t, v, m, exchanging(2, 1, v.promised, exchange(2, name(1, 2), api.Key{})), "an exchange")
			take(t, v, m, from(2, 1, api.PkReady, v.promised), "ready")
		}
		for i := range 70 {
			cast(t, v, m, i%3, "x", i%2, "a cast among two")
		}
		for i := range uint32(70) {
			take(t, v, m, data(2, 1, v.Conf(), msg(2, 70-i, uint64(70-i), 1)), "turned about")
		}
		for range 3 {
			tick(t, v, m, "a tick")
		}
	}
}

// P17.2: Cast.

func TestCastErrors(t *testing.T) {
	long, most := strings.Repeat("x", 1025), strings.Repeat("x", 1024)
	open, openM := joined(t)
	frozen, frozenM := joined(t)
	take(t, frozen, frozenM, gathering(0, 1, name(9, 0), 7), "frozen")
	full, fullM := joined(t)
	for range 4 {
		cast(t, full, fullM, 0, "", 0, "full")
	}
	for _, x := range []struct {
		what    string
		v       *Evs
		m       *told
		service int
		payload string
		reserve int
		want    api.Errno
	}{
		{"Fifo", open, openM, 0, "x", 0, api.OK},
		{"Agreed", open, openM, 1, "x", 0, api.OK},
		{"Safe", open, openM, 2, "x", 0, api.OK},
		{"no payload", open, openM, 0, "", 0, api.OK},
		{"the longest payload", open, openM, 0, most, 0, api.OK},
		{"a payload that is too long", open, openM, 0, long, 0, api.ErrLong},
		{"a payload of 64 KiB and one", open, openM, 0, strings.Repeat("x", 65537), 0, api.ErrLong},
		{"service -1", open, openM, -1, "x", 0, api.ErrRange},
		{"service 3", open, openM, 3, "x", 0, api.ErrRange},
		{"service 256", open, openM, 256, "x", 0, api.ErrRange},
		{"the least service", open, openM, math.MinInt, "x", 0, api.ErrRange},
		{"the greatest service", open, openM, math.MaxInt, "x", 0, api.ErrRange},
		{"service 3, too long", open, openM, 3, long, 0, api.ErrRange},
		{"a reserve of 3", open, openM, 0, "x", 3, api.OK},
		{"a reserve of 4", open, openM, 0, "x", 4, api.ErrFull},
		{"the greatest reserve", open, openM, 0, "x", math.MaxInt, api.ErrFull},
		{"a reserve below 0", open, openM, 0, "x", -1, api.OK},
		{"the least reserve", open, openM, 0, "x", math.MinInt, api.OK},
		{"too long, a reserve of 4", open, openM, 0, long, 4, api.ErrLong},
		{"frozen", frozen, frozenM, 0, "x", 0, api.ErrBlocked},
		{"frozen, a reserve of 4", frozen, frozenM, 0, "x", 4, api.ErrBlocked},
		{"frozen, too long", frozen, frozenM, 2, long, 0, api.ErrLong},
		{"frozen, service 3", frozen, frozenM, 3, "x", 0, api.ErrRange},
		{"full", full, fullM, 0, "x", 0, api.ErrFull},
		{"full, a reserve below 0", full, fullM, 0, "x", math.MinInt, api.ErrFull},
		{"full, too long", full, fullM, 0, long, 0, api.ErrLong},
		{"full, service 3", full, fullM, 3, long, 0, api.ErrRange},
	} {
		v, m := x.v.Copy(), x.m.copy()
		l, e := cast(t, v, m, x.service, x.payload, x.reserve, x.what)
		if e != x.want || e != api.OK && len(l) > 0 || e == api.OK && len(l) != 3 {
			t.Errorf("%s: %d, %s; want %d", x.what, e, show(l), x.want)
		}
		probe(t, v, m, x.what)
		// What errs changes nothing: a row behind it comes to the same as without it.
		if e != api.OK {
			probe(t, v, x.m.copy(), x.what)
		}
	}
}

// joined: the process 1 of 4, open in {5 0}, which is {0 1 2}; window 4.
func joined(t *testing.T) (*Evs, *told) {
	t.Helper()
	v, m := both(t, 1, 4, 3, 4, 0)
	c := name(5, 0)
	take(t, v, m, gathering(0, 1, c, 7), "joining")
	take(t, v, m, committing(0, 1, c, 7, exchange(0, name(4, 0), api.Key{}), exchange(1, name(1, 1), api.Key{}), exchange(2, name(4, 2), api.Key{})), "joining")
	take(t, v, m, from(0, 1, api.PkInstall, c), "joining")
	if v.Conf() != c || uint64(v.Members()) != 7 || !v.Open() || v.Epoch() != 5 {
		t.Fatal("not joined")
	}
	return v, m
}

// led: the process 0 of 4, open in {5 0}, which is {0 1 2} and which it represents; window 4.
func led(t *testing.T) (*Evs, *told) {
	t.Helper()
	v, m := both(t, 0, 4, 3, 4, 3)
	for p := 1; p < 3; p++ {
		take(t, v, m, beat(p, 0, name(3, p), name(3, p), 3), "leading")
	}
	tick(t, v, m, "leading")
	for p := 1; p < 3; p++ {
		take(t, v, m, exchanging(p, 0, name(5, 0), exchange(p, name(3, p), api.Key{})), "leading")
	}
	for p := 1; p < 3; p++ {
		take(t, v, m, from(p, 0, api.PkReady, name(5, 0)), "leading")
	}
	if v.Conf() != name(5, 0) || uint64(v.Members()) != 7 || !v.Open() || v.Epoch() != 5 {
		t.Fatal("not led", v.Conf())
	}
	return v, m
}

// probe: what both answer from here on, where it shows what is kept: at ticks, to what lacks, at an attempt that ends all.
func probe(t *testing.T, v *Evs, m *told, what string) {
	t.Helper()
	what += ", then probed"
	v, m = v.Copy(), m.copy()
	tick(t, v, m, what)
	probeHeld(t, v, m, what)
	if v.Open() {
		cast(t, v, m, api.Safe, "probe", 0, what)
		for _, p := range m.others() {
			take(t, v, m, ack(p, m.me, v.Conf(), m.clock, uint32(len(m.of(p))), m.clock, m.vector(64)...), what)
		}
		tick(t, v, m, what)
		probeHeld(t, v, m, what)
	}
	if m.attempt != nil {
		for _, p := range m.attempt.members {
			take(t, v, m, exchanging(p, m.me, v.promised, exchange(p, v.Conf(), api.Key{})), what)
		}
		for _, p := range m.members {
			take(t, v, m, from(p, m.me, api.PkReady, v.promised), what)
		}
		tick(t, v, m, what)
	}
	take(t, v, m, from(m.promised.Rep, m.me, api.PkInstall, v.promised), what)
	if p := (m.me + 1) % m.n; p != m.me {
		c := name(v.Epoch()+1, p)
		take(t, v, m, gathering(p, m.me, c, of(p, m.me)), what)
		take(t, v, m, committing(p, m.me, c, of(p, m.me), m.has), what)
		take(t, v, m, from(p, m.me, api.PkInstall, c), what)
	}
	tick(t, v, m, what)
}

// probeHeld: which messages are held.
func probeHeld(t *testing.T, v *Evs, m *told, what string) {
	t.Helper()
	for p := range m.n {
		take(t, v, m, nack(p, m.me, v.Conf(), m.me, 0), what)
		take(t, v, m, asking((m.me+1)%m.n, m.me, v.promised, p, 0), what)
	}
}

// All that comes of a cast, in its order: told, sent by rising numbers, delivered if it is ripe.
func TestCast(t *testing.T) {
	v, m := joined(t)
	c := name(5, 0)
	take(t, v, m, data(0, 1, c, msg(0, 1, 7, 1)), "0's")
	l := take(t, v, m, ack(2, 1, c, 9, 0, 7), "2's")
	expect(t, "0's is ripe", l, delivered(1, c, none, msg(0, 1, 7, 1)))
	x := api.Message{From: 1, Seq: 1, Stamp: 10, Service: 1, Deps: []uint32{1, 0, 0, 0}, Payload: "x"}
	l, _ = cast(t, v, m, 1, "x", 0, "a cast")
	expect(t, "a cast", l, sending(1, c, x), sent(data(1, 0, c, x)), sent(data(1, 2, c, x)))
	take(t, v, m, ack(0, 1, c, 12, 1, 0, 1, 1), "0 heard it")
	l = take(t, v, m, ack(2, 1, c, 11, 0, 0, 1, 1), "2 heard it")
	expect(t, "ripe", l, delivered(1, c, none, x))
	// Ahead of its turn: 0 and 2 promised to send nothing of a lesser stamp.
	take(t, v, m, ack(0, 1, c, 20, 1, 0, 1, 1), "0 is ahead")
	take(t, v, m, ack(2, 1, c, 21, 0, 0, 1, 1), "2 is ahead")
	y := api.Message{From: 1, Seq: 2, Stamp: 22, Service: 2, Deps: []uint32{1, 1, 0, 0}, Payload: "y"}
	l, _ = cast(t, v, m, 2, "y", 0, "a safe cast")
	expect(t, "a safe cast", l, sending(1, c, y), sent(data(1, 0, c, y)), sent(data(1, 2, c, y)))
	take(t, v, m, ack(0, 1, c, 22, 1, 22, 1, 2), "0 has it")
	expect(t, "not safe yet", take(t, v, m, ack(2, 1, c, 22, 0, 21, 1, 2), "2 heard it, not all"))
	expect(t, "safe", take(t, v, m, ack(2, 1, c, 22, 0, 22, 1, 2), "2 has it"), delivered(1, c, none, y))
}

// Alone, all is delivered at once, of each service, and nothing is ever in the way.
func TestCastAlone(t *testing.T) {
	v, m := both(t, 2, 3, 1, 1, 0)
	for i := range 70 {
		x := api.Message{From: 2, Seq: uint32(i + 1), Stamp: uint64(i + 1), Service: i % 3, Deps: []uint32{0, 0, uint32(i)}, Payload: "x"}
		l, e := cast(t, v, m, i%3, "x", 0, "alone")
		if e != api.OK {
			t.Fatal(i, e)
		}
		expect(t, "alone", l, sending(2, name(1, 2), x), delivered(2, name(1, 2), none, x))
	}
	if _, e := cast(t, v, m, 0, "x", 1, "alone"); e != api.ErrFull {
		t.Error(e)
	}
	probe(t, v, m, "alone")
}

// At the greatest stamp the clock stays: what is cast then is ripe at once, behind its packets, once all others are that far.
func TestCastAtTheGreatestStamp(t *testing.T) {
	v, m := joined(t)
	c := name(5, 0)
	take(t, v, m, ack(0, 1, c, math.MaxUint64-1, 0, 0), "the greatest stamp")
	for i, stamp := range []uint64{math.MaxUint64, math.MaxUint64, math.MaxUint64} {
		x := api.Message{From: 1, Seq: uint32(i + 1), Stamp: stamp, Service: 1, Deps: []uint32{0, uint32(i), 0, 0}, Payload: "x"}
		l, e := cast(t, v, m, 1, "x", 0, "the greatest stamp")
		want := []api.Effect{sending(1, c, x), sent(data(1, 0, c, x)), sent(data(1, 2, c, x))}
		if i > 0 {
			want = append(want, delivered(1, c, none, x))
		}
		if e != api.OK {
			t.Fatal(e)
		}
		expect(t, "the greatest stamp", l, want...)
		take(t, v, m, ack(0, 1, c, math.MaxUint64, 0, 0), "the greatest stamp")
		take(t, v, m, ack(2, 1, c, math.MaxUint64, 0, 0), "the greatest stamp")
	}
	probe(t, v, m, "the greatest stamp")
}

// A window that is full has room again once all others got one.
func TestCastWhenFull(t *testing.T) {
	v, m := joined(t)
	c := name(5, 0)
	for i := range 6 {
		_, e := cast(t, v, m, 0, "x", 0, "full")
		if want := []api.Errno{0, 0, 0, 0, api.ErrFull, api.ErrFull}[i]; e != want {
			t.Fatal(i, e)
		}
	}
	for i, x := range []struct {
		p    int
		got  []uint32
		want api.Errno
	}{
		{0, []uint32{0, 2}, api.ErrFull}, {2, []uint32{9}, api.ErrFull}, {2, nil, api.ErrFull}, {2, []uint32{0, 1}, api.OK}, {2, []uint32{0, 3, 9}, api.OK}, {2, []uint32{0, 0}, api.ErrFull}, {0, []uint32{0, 99}, api.OK},
	} {
		take(t, v, m, ack(x.p, 1, c, 0, 0, 0, x.got...), "got")
		if _, e := cast(t, v, m, 0, "x", 0, "full"); e != x.want {
			t.Fatal(i, e)
		}
		probe(t, v, m, "full")
	}
}

// P17.3: Take.

// A follower's whole way, each effect as the chapter has it.
func TestTheWayOfOneThatFollows(t *testing.T) {
	v, m := both(t, 1, 3, 2, 4, 0)
	old, c, next := name(1, 1), name(5, 0), name(8, 0)
	a := api.Message{From: 1, Seq: 1, Stamp: 1, Service: 1, Deps: []uint32{0, 0, 0}, Payload: "a"}
	l, _ := cast(t, v, m, 1, "a", 0, "alone")
	expect(t, "alone", l, sending(1, old, a), delivered(1, old, none, a))
	expect(t, "alone", tick(t, v, m, "alone"), beats(1, old, old, 1, of(1), 0, 2)...)

	mine := exchange(1, old, api.Key{Stamp: 1, From: 1}, 0, 1, 0)
	l = take(t, v, m, gathering(0, 1, c, of(0, 1)), "a proposal")
	expect(t, "a proposal", l, written(5), sent(exchanging(1, 0, c, mine)))
	expect(t, "it again", take(t, v, m, gathering(0, 1, c, of(0, 1)), "it again"), sent(exchanging(1, 0, c, mine)))
	expect(t, "frozen", tick(t, v, m, "frozen"), append(beats(1, old, c, 5, of(1), 0, 2), sent(exchanging(1, 0, c, mine)))...)
	expect(t, "too early", take(t, v, m, from(0, 1, api.PkInstall, c), "too early"))

	theirs := exchange(0, name(4, 0), api.Key{Stamp: 9}, 3, 9)
	ready := sent(from(1, 0, api.PkReady, c))
	expect(t, "all accepted", take(t, v, m, committing(0, 1, c, of(0, 1), theirs, mine), "all accepted"), ready)
	expect(t, "it again", take(t, v, m, committing(0, 1, c, of(0, 1), theirs, mine), "it again"))
	expect(t, "proposed again", take(t, v, m, gathering(0, 1, c, of(0, 1)), "proposed again"))
	expect(t, "ready", tick(t, v, m, "ready"), append(beats(1, old, c, 5, of(1), 0, 2), ready)...)
	l = take(t, v, m, from(0, 1, api.PkInstall, c), "installed")
	expect(t, "installed", l, trans(1, old, c, of(1)), regular(1, c, of(0, 1)))
	expect(t, "it again", take(t, v, m, from(0, 1, api.PkInstall, c), "it again"))

	one, two, three := msg(0, 1, 1, 1), msg(0, 2, 2, 0), msg(0, 3, 4, 1)
	expect(t, "the second ahead", take(t, v, m, data(0, 1, c, two), "the second ahead"))
	l = take(t, v, m, data(0, 1, c, one), "the first")
	expect(t, "both", l, delivered(1, c, none, one), delivered(1, c, none, two))
	expect(t, "it again", take(t, v, m, data(0, 1, c, one), "it again"))
	acks := sent(ack(1, 0, c, 2, 0, 2, 2, 0, 0))
	expect(t, "open", tick(t, v, m, "open"), append(beats(1, c, c, 5, of(0, 1), 0, 2), acks)...)
	s := api.Message{From: 1, Seq: 1, Stamp: 3, Service: 2, Deps: []uint32{2, 0, 0}, Payload: "s"}
	l, _ = cast(t, v, m, 2, "s", 0, "a cast")
	expect(t, "a cast", l, sending(1, c, s), sent(data(1, 0, c, s)))
	expect(t, "0 sent more", take(t, v, m, ack(0, 1, c, 5, 4, 2, 4, 1), "0 sent more"))
	acks = sent(ack(1, 0, c, 5, 1, 2, 2, 1, 0))
	expect(t, "what lacks", tick(t, v, m, "what lacks"), append(beats(1, c, c, 5, of(0, 1), 0, 2), acks, sent(nack(1, 0, c, 0, 3)))...)
	expect(t, "asked for", take(t, v, m, nack(0, 1, c, 1, 1), "asked for"), sent(data(1, 0, c, s)))
	expect(t, "the third", take(t, v, m, data(0, 1, c, three), "the third"))

	mine = exchange(1, c, api.Key{Stamp: 2}, 3, 1, 0)
	expect(t, "another one", take(t, v, m, gathering(0, 1, next, of(0, 1, 2)), "another one"), written(8), sent(exchanging(1, 0, next, mine)))
	theirs = exchange(0, c, api.Key{Stamp: 3, From: 1}, 4, 1)
	third := exchange(2, name(6, 2), api.Key{Stamp: 99}, 9, 9, 9)
	ask := sent(asking(1, 0, next, 0, 4))
	expect(t, "the fourth lacks", take(t, v, m, committing(0, 1, next, of(0, 1, 2), theirs, mine, third), "the fourth lacks"), ask)
	expect(t, "the fourth lacks", tick(t, v, m, "the fourth lacks"), append(beats(1, c, next, 8, of(0, 1), 0, 2), ask)...)
	expect(t, "asked itself", take(t, v, m, asking(2, 1, next, 0, 3), "asked itself"), sent(recovering(1, 2, next, 0, three)))
	four := msg(0, 4, 6, 0)
	four.Deps = []uint32{3, 2}
	expect(t, "too early", take(t, v, m, from(0, 1, api.PkInstall, next), "too early"))
	expect(t, "the fourth", take(t, v, m, recovering(0, 1, next, 0, four), "the fourth"), sent(from(1, 0, api.PkReady, next)))
	l = take(t, v, m, from(0, 1, api.PkInstall, next), "installed")
	// The fourth leans on a second one of 1, which nobody has.
	expect(t, "installed", l, delivered(1, c, none, s), trans(1, c, next, of(0, 1)), delivered(1, c, next, three), regular(1, next, of(0, 1, 2)))
	probe(t, v, m, "at the end")
}

// The whole way of one that represents, each effect as the chapter has it.
func TestTheWayOfOneThatLeads(t *testing.T) {
	v, m := both(t, 0, 4, 5, 4, 0)
	old, c, next := name(1, 0), name(8, 0), name(9, 0)
	expect(t, "alone", tick(t, v, m, "alone"), beats(0, old, old, 1, of(0), 1, 2, 3)...)
	expect(t, "a beat", take(t, v, m, beat(2, 0, name(3, 2), name(7, 2), 5), "a beat"))
	expect(t, "a beat", take(t, v, m, beat(1, 0, name(2, 1), name(2, 1), 2), "a beat"))
	l := tick(t, v, m, "others are reached")
	proposed := gathering(0, 1, c, of(0, 1, 2))
	propose := []api.Effect{sent(proposed), sent(with(proposed, func(p *api.Packet) { p.To = 2 }))}
	expect(t, "others are reached", l, slices.Concat(beats(0, old, old, 1, of(0), 1, 2, 3), []api.Effect{written(8)}, propose)...)
	if v.Open() || v.Epoch() != 8 || v.Conf() != old {
		t.Fatal("not frozen")
	}
	expect(t, "nobody accepted", tick(t, v, m, "nobody accepted"), append(beats(0, old, c, 8, of(0), 1, 2, 3), propose...)...)
	x0, x1, x2 := exchange(0, old, api.Key{}, 0, 0, 0, 0), exchange(1, name(2, 1), api.Key{Stamp: 3, From: 1}, 0, 3), exchange(2, name(3, 2), api.Key{Stamp: 4, From: 2}, 0, 0, 4)
	expect(t, "too early", take(t, v, m, from(2, 0, api.PkReady, c), "too early"))
	expect(t, "2 accepts", take(t, v, m, exchanging(2, 0, c, x2), "2 accepts"))
	expect(t, "it again", take(t, v, m, exchanging(2, 0, c, x2), "it again"))
	expect(t, "1 lacks", tick(t, v, m, "1 lacks"), append(beats(0, old, c, 8, of(0), 1, 2, 3), propose[0])...)
	commit := func(to int) api.Effect { return sent(committing(0, to, c, of(0, 1, 2), x0, x1, x2)) }
	expect(t, "1 accepts", take(t, v, m, exchanging(1, 0, c, x1), "1 accepts"), commit(1), commit(2))
	expect(t, "2 again", take(t, v, m, exchanging(2, 0, c, x2), "2 again"), commit(2))
	expect(t, "told", tick(t, v, m, "told"), append(beats(0, old, c, 8, of(0), 1, 2, 3), commit(1), commit(2))...)
	expect(t, "2 is ready", take(t, v, m, from(2, 0, api.PkReady, c), "2 is ready"))
	expect(t, "2 again", take(t, v, m, from(2, 0, api.PkReady, c), "2 again"))
	expect(t, "1 isn't", tick(t, v, m, "1 isn't"), append(beats(0, old, c, 8, of(0), 1, 2, 3), commit(1))...)
	install := func(to int) api.Effect { return sent(from(0, to, api.PkInstall, c)) }
	expect(t, "1 is ready", take(t, v, m, from(1, 0, api.PkReady, c), "1 is ready"), trans(0, old, c, of(0)), regular(0, c, of(0, 1, 2)), install(1), install(2))
	expect(t, "1 again", take(t, v, m, from(1, 0, api.PkReady, c), "1 again"), install(1))

	y := api.Message{From: 0, Seq: 1, Stamp: 1, Service: 1, Deps: []uint32{0, 0, 0, 0}, Payload: "y"}
	l, _ = cast(t, v, m, 1, "y", 0, "a cast")
	expect(t, "a cast", l, sending(0, c, y), sent(data(0, 1, c, y)), sent(data(0, 2, c, y)))
	acks := ack(0, 1, c, 1, 1, 0, 1, 0, 0, 0)
	l = tick(t, v, m, "open")
	expect(t, "open", l, append(beats(0, c, c, 8, of(0, 1, 2), 1, 2, 3), sent(acks), sent(with(acks, func(p *api.Packet) { p.To = 2 })))...)
	take(t, v, m, data(1, 0, c, msg(1, 1, 2, 1)), "1's")

	// 2 isn't heard of any more, 1 is.
	for range 4 {
		take(t, v, m, beat(1, 0, c, c, 8), "1 is there")
		tick(t, v, m, "2 isn't")
	}
	if v.Open() || v.promised != next || v.Epoch() != 9 {
		t.Fatal("no attempt", v.promised)
	}
	x0, x1 = exchange(0, c, api.Key{}, 1, 1, 0, 0), exchange(1, c, api.Key{Stamp: 1}, 1, 2)
	l = take(t, v, m, exchanging(1, 0, next, x1), "1 has more")
	expect(t, "1 has more", l, sent(committing(0, 1, next, of(0, 1), x0, x1)), sent(asking(0, 1, next, 1, 2)))
	expect(t, "1 is ready", take(t, v, m, from(1, 0, api.PkReady, next), "1 is ready"))
	take(t, v, m, beat(1, 0, c, next, 9), "1 is there")
	expect(t, "it lacks", tick(t, v, m, "it lacks"), append(beats(0, c, next, 9, of(0, 1, 2), 1, 2, 3), sent(asking(0, 1, next, 1, 2)))...)
	z := msg(1, 2, 3, 2)
	l = take(t, v, m, recovering(1, 0, next, 1, z), "it lacks no more")
	expect(t, "installed", l, delivered(0, c, none, y), trans(0, c, next, of(0, 1)), delivered(0, c, next, msg(1, 1, 2, 1)), delivered(0, c, next, z), regular(0, next, of(0, 1)), sent(from(0, 1, api.PkInstall, next)))
	probe(t, v, m, "at the end")
}

// Alone, an attempt is told, done and installed in one step.
func TestAnAttemptOfOneAlone(t *testing.T) {
	v, m := led(t)
	c, next := name(5, 0), name(6, 0)
	y := api.Message{From: 0, Seq: 1, Stamp: 1, Service: 2, Deps: []uint32{0, 0, 0, 0}, Payload: "y"}
	cast(t, v, m, 2, "y", 0, "a cast")
	take(t, v, m, data(2, 0, c, msg(2, 1, 4, 1)), "2's")
	x := msg(1, 1, 5, 1)
	x.Deps = []uint32{0, 0, 2} // nobody here has that
	take(t, v, m, data(1, 0, c, x), "1's")
	for range 3 {
		tick(t, v, m, "nobody is there")
	}
	ack := func(to int) api.Effect { return sent(ack(0, to, c, 5, 1, 4, 1, 1, 1, 0)) }
	l := tick(t, v, m, "alone")
	expect(t, "alone", l, slices.Concat(beats(0, c, c, 5, 7, 1, 2, 3), []api.Effect{ack(1), ack(2), written(6),
		trans(0, c, next, of(0)), delivered(0, c, next, y), delivered(0, c, next, msg(2, 1, 4, 1)), regular(0, next, of(0))})...)
	if !v.Open() || v.Conf() != next || v.Epoch() != 6 {
		t.Error(v.Conf())
	}
	expect(t, "again", tick(t, v, m, "again"), beats(0, next, next, 6, 1, 1, 2, 3)...)
}

// stage: a process that has come so far, and what it is by the words.
type stage struct {
	what string
	v    *Evs
	m    *told
}

// busy: the process of joined, with messages: 0's first one is delivered, of 2's only the second and the third are there, of its own two 2 got one.
func busy(t *testing.T) (*Evs, *told) {
	t.Helper()
	v, m := joined(t)
	c := name(5, 0)
	take(t, v, m, data(0, 1, c, msg(0, 1, 1, 1)), "busy")
	take(t, v, m, ack(2, 1, c, 1, 0, 0, 1), "busy")
	cast(t, v, m, 1, "own", 0, "busy")
	take(t, v, m, ack(2, 1, c, 1, 0, 0, 1, 1), "busy")
	cast(t, v, m, 2, "own too", 0, "busy")
	take(t, v, m, data(2, 1, c, msg(2, 3, 5, 2)), "busy")
	take(t, v, m, data(2, 1, c, msg(2, 2, 4, 1)), "busy")
	take(t, v, m, data(0, 1, c, msg(0, 2, 6, 2)), "busy")
	take(t, v, m, ack(0, 1, c, 6, 3, 1, 2), "busy")
	take(t, v, m, beat(2, 1, c, c, 5), "busy")
	return v, m
}

// older, newer, third: exchanges of those of {5 0}, of which 0 has one more message of its own, and 2 one more of its own.
func exchanges() []api.Exchange {
	c := name(5, 0)
	return []api.Exchange{
		exchange(0, c, api.Key{Stamp: 1}, 3, 1, 0),
		exchange(1, c, api.Key{Stamp: 1}, 2, 2, 0, 0),
		exchange(2, c, api.Key{Stamp: 2, From: 1}, 1, 1, 2),
	}
}

// leadBusy: the process of led, with messages: the first of 1's and of 2's are there, of its own two nobody got any.
func leadBusy(t *testing.T) (*Evs, *told) {
	t.Helper()
	v, m := led(t)
	c := name(5, 0)
	cast(t, v, m, 0, "own", 0, "leading")
	take(t, v, m, data(1, 0, c, msg(1, 1, 1, 1)), "leading")
	take(t, v, m, data(2, 0, c, msg(2, 1, 3, 2)), "leading")
	take(t, v, m, ack(1, 0, c, 3, 1, 1, 1, 1, 0), "leading")
	cast(t, v, m, 1, "own too", 0, "leading")
	take(t, v, m, ack(2, 0, c, 3, 2, 1, 0, 1, 1), "leading")
	return v, m
}

// leadFrozen: the same, with an attempt of {6 0} with 1 and 2, since 1 told of another name.
func leadFrozen(t *testing.T) (*Evs, *told) {
	t.Helper()
	v, m := leadBusy(t)
	take(t, v, m, beat(1, 0, name(5, 0), name(5, 1), 5), "leading")
	tick(t, v, m, "leading")
	if v.Open() || v.promised != name(6, 0) {
		t.Fatal("no attempt: ", v.promised)
	}
	return v, m
}

// leadTold: the same, told: what lacks is 1's second message; 2 is of another configuration.
func leadTold(t *testing.T, second uint32) (*Evs, *told) {
	t.Helper()
	v, m := leadFrozen(t)
	take(t, v, m, exchanging(2, 0, name(6, 0), exchange(2, name(5, 2), api.Key{Stamp: 8}, 9, 9, 9)), "leading")
	take(t, v, m, exchanging(1, 0, name(6, 0), exchange(1, name(5, 0), api.Key{Stamp: 1}, 2, second, 1)), "leading")
	return v, m
}

// stages: all kinds of them, each of its own making.
func stages(t *testing.T) []stage {
	t.Helper()
	var out []stage
	add := func(what string) func(v *Evs, m *told) (*Evs, *told) {
		return func(v *Evs, m *told) (*Evs, *told) {
			out = append(out, stage{what, v, m})
			return v.Copy(), m.copy()
		}
	}
	c := name(8, 0)
	v, m := add("alone")(both(t, 1, 4, 3, 4, 0))
	take(t, v, m, gathering(3, 1, name(3, 3), of(1, 3)), "stages")
	add("alone, frozen")(v, m)
	add("joined")(joined(t))
	v, m = add("busy")(busy(t))
	take(t, v, m, gathering(0, 1, c, 7), "stages")
	v, m = add("frozen")(v, m)
	take(t, v, m, committing(0, 1, c, 7, exchanges()...), "stages")
	v, m = add("two lack")(v, m)
	take(t, v, m, recovering(0, 1, c, 0, msg(0, 3, 7, 1)), "stages")
	take(t, v, m, recovering(2, 1, c, 2, msg(2, 1, 3, 1)), "stages")
	v, m = add("one lacks")(v, m)
	take(t, v, m, recovering(2, 1, c, 2, msg(2, 2, 4, 1)), "stages")
	v, m = add("ready")(v, m)
	if !v.ready {
		t.Fatal("not ready")
	}
	take(t, v, m, from(0, 1, api.PkInstall, c), "stages")
	add("installed")(v, m)
	add("leading")(led(t))
	v, m = add("leading, busy")(leadBusy(t))
	take(t, v, m, gathering(1, 0, name(7, 1), 3), "stages")
	v, m = add("frozen by 1, and the least")(v, m)
	take(t, v, m, committing(1, 0, name(7, 1), 3, m.has, exchange(1, name(5, 0), api.Key{}, 9)), "stages")
	add("committed by 1, and the least")(v, m)
	v, m = add("an attempt")(leadFrozen(t))
	take(t, v, m, exchanging(1, 0, name(6, 0), exchange(1, name(5, 0), api.Key{}, 1, 1)), "stages")
	add("one accepted")(v, m)
	add("told, and one lacks")(leadTold(t, 2))
	v, m = add("told, and none lacks")(leadTold(t, 1))
	take(t, v, m, from(2, 0, api.PkReady, name(6, 0)), "stages")
	add("all but one are ready")(v, m)
	return out
}

// names: all that may make a difference at a stage.
func names(m *told, p int) []api.Conf {
	var out []api.Conf
	for _, c := range []api.Conf{m.conf, m.promised, none, name(1, p), name(m.promised.Epoch, p), name(m.promised.Epoch+1, p), name(m.epoch+3, p), name(m.epoch+1, m.me), name(m.promised.Epoch, m.promised.Rep+1)} {
		if !slices.Contains(out, c) {
			out = append(out, c)
		}
	}
	return out
}

// packets: of a kind, from p, of a name, all that may make a difference.
func packets(m *told, p, kind int, c api.Conf) []api.Packet {
	x := from(p, m.me, kind, c)
	out := []api.Packet{x}
	add := func(f func(p *api.Packet)) { out = append(out, with(x, f)) }
	other := (p + 1) % m.n
	switch kind {
	case api.PkData:
		for _, y := range []api.Message{msg(p, 1, 2, 1), msg(p, 2, 3, 0), msg(p, 3, 9, 2), msg(p, 4, 0, 1), msg(p, 5, 9, 1), msg(p, 8, 9, 1), msg(p, 1<<32-1, 1, 1), msg(p, 3, math.MaxUint64, 9), msg(other, 1, 4, 1), msg(other, 2, 4, 1), msg(m.me, 1, 4, 1), msg(m.me, 2, 4, 1), msg(-1, 2, 4, 1), msg(64, 1, 4, 1)} {
			y.Deps = []uint32{1, 2, 3}
			add(func(p *api.Packet) { p.M = y })
		}
	case api.PkAck:
		for _, got := range [][]uint32{{1}, {2, 1}, {1, 1, 2, 9}, {9, 9, 9, 9}, slices.Repeat([]uint32{3}, 70)} {
			for _, stamp := range []uint64{4, 6, 50} {
				add(func(p *api.Packet) { p.Got, p.Stamp, p.Sent, p.Horizon = got, stamp, got[0], stamp-2 })
				add(func(p *api.Packet) { p.Got, p.Stamp, p.Sent, p.Horizon = got, stamp, 0, 60 })
			}
		}
		add(func(p *api.Packet) { p.Stamp, p.Sent, p.Horizon = math.MaxUint64, math.MaxUint32, math.MaxUint64 })
	case api.PkNack, api.PkAsk:
		for _, whom := range []int{m.me, p, other, -1, 3, 63, 64} {
			for _, seq := range []uint32{0, 1, 2, 3, math.MaxUint32} {
				add(func(p *api.Packet) { p.Whom, p.Seq = whom, seq })
			}
		}
	case api.PkBeat:
		for _, prom := range names(m, p) {
			add(func(p *api.Packet) { p.Prom = prom })
			add(func(p *api.Packet) { p.Prom, p.Epoch, p.Members = prom, 70, 3 })
		}
		add(func(p *api.Packet) { p.Epoch = math.MaxUint64 })
	case api.PkGather:
		for _, l := range []uint64{of(m.me, p), of(m.me), of(p), 7, 15, math.MaxUint64} {
			add(func(p *api.Packet) { p.Members = l })
		}
	case api.PkExchange:
		good, bad := exchange(p, m.conf, api.Key{Stamp: 9, From: 1}, 3, 2, 1), exchange(other, m.conf, api.Key{}, 1)
		for _, l := range [][]api.Exchange{{good}, {bad}, {good, good}, {good, bad}, {exchange(p, none, api.Key{})}, {exchange(p, m.conf, api.Key{}, slices.Repeat([]uint32{1}, 70)...)}, {exchange(-1, m.conf, api.Key{})}} {
			add(func(p *api.Packet) { p.X = l })
		}
	case api.PkCommit:
		good, mine := exchange(p, m.conf, api.Key{Stamp: 9, From: 1}, 3, 2, 1), exchange(m.me, m.conf, api.Key{Stamp: 2}, 2, 1)
		for _, l := range [][]api.Exchange{{good, mine}, {mine}, {good}, {mine, mine}, {mine, good, good}, {mine, exchange(-1, none, api.Key{})}, {exchange(64, m.conf, api.Key{}), mine}, {mine, exchange(63, none, api.Key{}, 9)}, {mine, exchange(3, m.conf, api.Key{}, 0, 0, 0, 5)}, {exchange(m.me, none, api.Key{}, slices.Repeat([]uint32{1}, 70)...)}} {
			for _, members := range []uint64{of(m.me, p), of(m.me), of(p), math.MaxUint64} {
				add(func(p *api.Packet) { p.Members, p.X = members, l })
			}
		}
	case api.PkRecover:
		for _, whom := range []int{0, 1, 2, 3, -1, 64} {
			for _, y := range []api.Message{msg(whom, 0, 2, 1), msg(whom, 1, 2, 1), msg(whom, 2, 3, 0), msg(whom, 3, 9, 2), msg(whom, 4, 9, 2), msg(other, 2, 9, 2)} {
				y.Deps = []uint32{1, 2, 3}
				add(func(p *api.Packet) { p.Whom, p.M = whom, y })
			}
			for q := range m.n {
				add(func(p *api.Packet) { p.Whom, p.M = whom, msg(q, uint32(len(m.of(q))+1), 9, 1) })
			}
		}
	}
	return out
}

// Any packet, at each stage, on a copy: and what comes of it behind that.
func TestAllPacketsAtEachStage(t *testing.T) {
	for _, s := range stages(t) {
		for kind := -1; kind <= 13; kind++ {
			for p := range s.m.n {
				for i, c := range names(s.m, p) {
					for j, x := range packets(s.m, p, kind, c) {
						// Where the name is that of nothing, the other fields can't tell much.
						if i > 2 && j%5 > 0 && kind != api.PkGather {
							continue
						}
						v, m := s.v.Copy(), s.m.copy()
						puts := len(m.puts)
						if l := take(t, v, m, x, s.what); len(l) > 0 {
							take(t, v, m, x, s.what+", again")
						}
						tick(t, v, m, s.what)
						if kind == api.PkRecover && len(m.puts) > puts || kind == api.PkCommit && m.commit != nil {
							probe(t, v, m, s.what)
						}
					}
				}
			}
		}
		probe(t, s.v, s.m, s.what)
	}
}

// Kinds that aren't any: somebody was heard of, and nothing else comes of it.
func TestKindsThatAreNone(t *testing.T) {
	for _, s := range stages(t) {
		for _, kind := range append([]int{0, 12, 13, 255, 256, 257, 1<<16 + 1}, odd...) {
			v, m := s.v.Copy(), s.m.copy()
			x := from(3, m.me, kind, v.promised)
			expect(t, s.what, take(t, v, m, x, s.what))
			if !v.ear.Reach().Has(3) {
				t.Fatalf("%s: the kind %d isn't heard", s.what, kind)
			}
			tick(t, v, m, s.what)
			tick(t, v, m, s.what)
		}
	}
}

// What isn't to me, or isn't of another process below n, is nothing, of any kind: nobody was heard of by it.
func TestPacketsThatAreNotToMe(t *testing.T) {
	for _, s := range stages(t) {
		for kind := range 13 {
			for _, c := range []api.Conf{s.m.conf, s.m.promised, name(99, 0)} {
				good := packets(s.m, (s.m.me+1)%3, kind, c)
				x := good[len(good)-1]
				x.Members |= 15
				var bad []api.Packet
				for _, p := range append([]int{s.m.me, s.m.n, s.m.n + 1, 62, 63}, odd...) {
					bad = append(bad, with(x, func(y *api.Packet) { y.From = p }), with(x, func(y *api.Packet) { y.From, y.Conf.Rep, y.Whom = p, p, p }))
				}
				for _, p := range append([]int{(s.m.me + 1) % 4, (s.m.me + 2) % 4, 63}, odd...) {
					bad = append(bad, with(x, func(y *api.Packet) { y.To = p }), with(x, func(y *api.Packet) { y.From, y.To = p, p }))
				}
				v, m := s.v.Copy(), s.m.copy()
				for _, y := range bad {
					if l := take(t, v, m, y, s.what); len(l) > 0 {
						t.Fatalf("%s: %+v: %s", s.what, y, show(l))
					}
				}
				for range 4 {
					tick(t, v, m, s.what)
				}
			}
		}
	}
}

// Each kind of packet, where it is so and where it isn't.
func TestTakeAtTheEdges(t *testing.T) {
	at := map[string]stage{}
	for _, s := range stages(t) {
		at[s.what] = s
	}
	c, next, led := name(5, 0), name(8, 0), name(6, 0)
	own := api.Message{From: 1, Seq: 1, Stamp: 2, Service: 1, Deps: []uint32{1, 0, 0, 0}, Payload: "own"}
	too := api.Message{From: 1, Seq: 2, Stamp: 3, Service: 2, Deps: []uint32{1, 0, 0, 0}, Payload: "own too"}
	first, second := msg(2, 1, 3, 1), msg(2, 2, 4, 1)
	mine := exchange(1, c, api.Key{Stamp: 1}, 2, 2, 0, 0)
	x := exchanges()
	lead := exchange(0, c, api.Key{Stamp: 1, From: 1}, 2, 1, 1, 0)
	one := exchange(1, c, api.Key{Stamp: 1}, 2, 1, 1)
	other := exchange(2, name(5, 2), api.Key{Stamp: 8}, 9, 9, 9)
	resent := func(to int, l ...api.Message) []api.Effect {
		var out []api.Effect
		for _, m := range l {
			out = append(out, sent(data(1, to, c, m)))
		}
		return out
	}
	recovered := func(to, whom int, l ...api.Message) []api.Effect {
		var out []api.Effect
		for _, m := range l {
			out = append(out, sent(recovering(1, to, next, whom, m)))
		}
		return out
	}
	ask := func(l ...uint32) []api.Effect {
		var out []api.Effect
		for i := 0; i < len(l); i += 2 {
			out = append(out, sent(asking(1, int(l[i]), next, int(l[i]), l[i+1])))
		}
		return out
	}
	for _, e := range []struct {
		what, stage string
		p           api.Packet
		want        []api.Effect
	}{
		{"a message that goes on", "joined", data(0, 1, c, msg(0, 1, 1, 1)), nil},
		{"a message of another configuration", "busy", data(2, 1, name(5, 2), first), nil},
		{"a message of one that is no member", "busy", data(3, 1, c, msg(3, 1, 1, 1)), nil},
		{"a message, frozen", "frozen", data(2, 1, c, first), nil},
		{"a message of what is promised", "frozen", data(2, 1, next, first), nil},

		{"1's first one is heard by all", "busy", ack(2, 1, c, 2, 0, 0, 1, 1), []api.Effect{delivered(1, c, none, own)}},
		{"of another configuration", "busy", ack(2, 1, name(5, 1), 2, 0, 0, 1, 1), nil},
		{"of one that is no member", "busy", ack(3, 1, c, 2, 0, 0, 1, 1), nil},
		{"frozen", "frozen", ack(2, 1, c, 2, 0, 0, 1, 1), nil},
		{"but for one message", "busy", ack(2, 1, c, 2, 1, 0, 1, 1), nil},
		{"without a vector", "busy", ack(2, 1, c, 2, 0, 0), []api.Effect{delivered(1, c, none, own)}},

		{"of its own", "busy", nack(2, 1, c, 1, 1), resent(2, own, too)},
		{"from the number 0", "busy", nack(0, 1, c, 1, 0), resent(0, own, too)},
		{"from its last", "busy", nack(0, 1, c, 1, 2), resent(0, too)},
		{"behind its last", "busy", nack(0, 1, c, 1, 3), nil},
		{"of another one's", "busy", nack(2, 1, c, 0, 1), nil},
		{"of who asks", "busy", nack(2, 1, c, 2, 1), nil},
		{"of another configuration", "busy", nack(2, 1, name(4, 0), 1, 1), nil},
		{"of one that is no member", "busy", nack(3, 1, c, 1, 1), nil},
		{"frozen", "frozen", nack(2, 1, c, 1, 1), nil},
		{"frozen, of what is promised", "frozen", nack(2, 1, next, 1, 1), nil},

		{"a newer name", "busy", gathering(0, 1, next, 7), []api.Effect{written(8), sent(exchanging(1, 0, next, mine))}},
		{"a newer name of the same epoch", "busy", gathering(2, 1, name(5, 2), 7), []api.Effect{sent(exchanging(1, 2, name(5, 2), mine))}},
		{"the configuration's own name", "busy", gathering(0, 1, c, 7), nil},
		{"an older name", "busy", gathering(2, 1, name(4, 2), 7), nil},
		{"without me", "busy", gathering(0, 1, next, 5), nil},
		{"without who tells it", "busy", gathering(0, 1, next, 6), nil},
		{"of whom another one tells", "busy", gathering(2, 1, next, 7), nil},
		{"of one that is no member here", "busy", gathering(3, 1, name(6, 3), 15), []api.Effect{written(6), sent(exchanging(1, 3, name(6, 3), mine))}},
		{"that very name", "frozen", gathering(0, 1, next, 7), []api.Effect{sent(exchanging(1, 0, next, mine))}},
		{"that very name, other members", "frozen", gathering(0, 1, next, 3), []api.Effect{sent(exchanging(1, 0, next, mine))}},
		{"that very name, without me", "frozen", gathering(0, 1, next, 5), nil},
		{"that very name, with a plan", "two lack", gathering(0, 1, next, 7), nil},
		{"that very name, ready", "ready", gathering(0, 1, next, 7), nil},
		{"frozen, a newer one", "frozen", gathering(2, 1, name(8, 2), 7), []api.Effect{sent(exchanging(1, 2, name(8, 2), mine))}},
		{"frozen, an older one", "frozen", gathering(2, 1, name(7, 2), 7), nil},
		{"one lacks, a newer one", "one lacks", gathering(2, 1, name(9, 2), 6), []api.Effect{written(9), sent(exchanging(1, 2, name(9, 2), exchange(1, c, api.Key{Stamp: 1}, 3, 2, 1, 0)))}},
		{"with an attempt, a newer one", "an attempt", gathering(2, 0, name(6, 2), 7), []api.Effect{sent(exchanging(0, 2, name(6, 2), lead))}},
		{"with an attempt, an older one", "an attempt", gathering(2, 0, name(5, 2), 7), nil},

		{"the last but one exchange", "an attempt", exchanging(1, 0, led, one), nil},
		{"the last one", "one accepted", exchanging(2, 0, led, other), []api.Effect{sent(committing(0, 1, led, 7, lead, exchange(1, c, api.Key{}, 1, 1), other)), sent(committing(0, 2, led, 7, lead, exchange(1, c, api.Key{}, 1, 1), other))}},
		{"that comes twice", "one accepted", exchanging(1, 0, led, one), nil},
		{"of another name", "one accepted", exchanging(2, 0, name(7, 0), other), nil},
		{"of the configuration", "one accepted", exchanging(2, 0, c, other), nil},
		{"of another one", "one accepted", exchanging(2, 0, led, one), nil},
		{"of nobody", "one accepted", exchanging(2, 0, led), nil},
		{"two of them", "one accepted", exchanging(2, 0, led, other, one), nil},
		{"of one that is no member", "one accepted", exchanging(3, 0, led, exchange(3, none, api.Key{})), nil},
		{"behind being told", "told, and none lacks", exchanging(2, 0, led, exchange(2, none, api.Key{})), []api.Effect{sent(committing(0, 2, led, 7, lead, one, other))}},
		{"behind being told, of one that is no member", "told, and none lacks", exchanging(3, 0, led, exchange(3, none, api.Key{})), []api.Effect{sent(committing(0, 3, led, 7, lead, one, other))}},
		{"behind being told, of another one", "told, and none lacks", exchanging(2, 0, led, one), nil},
		{"behind being told, of nobody", "told, and none lacks", exchanging(2, 0, led), nil},
		{"without an attempt", "leading, busy", exchanging(1, 0, c, one), nil},
		{"without an attempt, frozen", "frozen", exchanging(0, 1, next, x[0]), nil},

		{"what lacks is asked for", "frozen", committing(0, 1, next, 7, x...), ask(0, 3, 2, 1)},
		{"nothing lacks", "frozen", committing(0, 1, next, 7, x[1]), []api.Effect{sent(from(1, 0, api.PkReady, next))}},
		{"no plan is made", "frozen", committing(0, 1, next, 7, x[0], x[2]), nil},
		{"no plan is made of two", "frozen", committing(0, 1, next, 7, x[1], x[1]), nil},
		{"no plan is made of what is no process", "frozen", committing(0, 1, next, 7, x[1], exchange(64, none, api.Key{})), nil},
		{"of another name", "frozen", committing(0, 1, name(9, 0), 7, x...), nil},
		{"of the configuration", "frozen", committing(0, 1, c, 7, x...), nil},
		{"of whom another one tells", "frozen", committing(2, 1, next, 7, x...), nil},
		{"without me", "frozen", committing(0, 1, next, 5, x...), nil},
		{"without who tells it", "frozen", committing(0, 1, next, 6, x...), nil},
		{"open", "busy", committing(0, 1, c, 7, x...), nil},
		{"with a plan", "two lack", committing(0, 1, next, 7, x...), nil},
		{"ready", "ready", committing(0, 1, next, 7, x...), nil},

		{"what is asked for", "frozen", asking(0, 1, next, 1, 1), recovered(0, 1, own, too)},
		{"of who asks", "frozen", asking(2, 1, next, 0, 2), recovered(2, 0, msg(0, 2, 6, 2))},
		{"of whom none is there", "frozen", asking(0, 1, next, 2, 1), nil},
		{"of what is no process", "frozen", asking(0, 1, next, -1, 1), nil},
		{"of 64", "frozen", asking(0, 1, next, 64, 1), nil},
		{"of one that is no member", "frozen", asking(3, 1, next, 1, 2), recovered(3, 1, too)},
		{"of another name", "frozen", asking(0, 1, name(9, 0), 1, 1), nil},
		{"of the configuration", "frozen", asking(0, 1, c, 1, 1), nil},
		{"open", "busy", asking(0, 1, c, 1, 1), nil},
		{"with a plan", "two lack", asking(2, 1, next, 1, 2), recovered(2, 1, too)},
		{"ready", "ready", asking(0, 1, next, 2, 1), recovered(0, 2, first, second)},

		{"what lacks", "two lack", recovering(2, 1, next, 2, first), ask(0, 3, 2, 2)},
		{"what lacks, of anybody", "two lack", recovering(3, 1, next, 2, first), ask(0, 3, 2, 2)},
		{"the last that lacks", "one lacks", recovering(2, 1, next, 2, second), []api.Effect{sent(from(1, 0, api.PkReady, next))}},
		{"of me", "two lack", recovering(2, 1, next, 1, msg(1, 3, 9, 1)), nil},
		{"one that is there", "two lack", recovering(0, 1, next, 0, msg(0, 2, 6, 2)), nil},
		{"that comes twice", "one lacks", recovering(2, 1, next, 2, first), nil},
		{"not in order", "two lack", recovering(2, 1, next, 2, second), nil},
		{"above the whole count", "ready", recovering(2, 1, next, 2, msg(2, 3, 9, 1)), nil},
		{"of whom nobody has any", "two lack", recovering(2, 1, next, 3, msg(3, 1, 9, 1)), nil},
		{"of what is no process", "two lack", recovering(2, 1, next, -1, msg(-1, 1, 9, 1)), nil},
		{"of the number 0", "two lack", recovering(2, 1, next, 2, msg(2, 0, 9, 1)), nil},
		{"of another name", "two lack", recovering(2, 1, name(9, 0), 2, first), nil},
		{"of the configuration", "two lack", recovering(2, 1, c, 2, first), nil},
		{"without a plan", "frozen", recovering(2, 1, next, 2, first), nil},
		{"open", "busy", recovering(2, 1, c, 2, first), nil},

		{"one is ready", "told, and none lacks", from(2, 0, api.PkReady, led), nil},
		{"that comes twice", "all but one are ready", from(2, 0, api.PkReady, led), nil},
		{"of one that is no member", "all but one are ready", from(3, 0, api.PkReady, led), nil},
		{"of another name", "all but one are ready", from(1, 0, api.PkReady, c), nil},
		{"not told", "one accepted", from(1, 0, api.PkReady, led), nil},
		{"of an attempt that is done", "leading", from(2, 0, api.PkReady, c), []api.Effect{sent(from(0, 2, api.PkInstall, c))}},
		{"of an attempt that is done, of one that is no member", "leading", from(3, 0, api.PkReady, c), []api.Effect{sent(from(0, 3, api.PkInstall, c))}},
		{"open, of another name", "leading", from(2, 0, api.PkReady, led), nil},
		{"open, represented by another one", "joined", from(2, 1, api.PkReady, c), nil},
		{"open, represented by who tells it", "joined", from(0, 1, api.PkReady, c), nil},
		{"frozen, of the configuration", "an attempt", from(2, 0, api.PkReady, c), nil},
		{"frozen without an attempt", "ready", from(0, 1, api.PkReady, next), nil},

		{"ready, of another name", "ready", from(0, 1, api.PkInstall, name(9, 0)), nil},
		{"ready, of the configuration", "ready", from(0, 1, api.PkInstall, c), nil},
		{"ready, by another one", "ready", from(2, 1, api.PkInstall, next), nil},
		{"ahead of being ready", "one lacks", from(0, 1, api.PkInstall, next), nil},
		{"without a plan", "frozen", from(0, 1, api.PkInstall, next), nil},
		{"open", "busy", from(0, 1, api.PkInstall, c), nil},
		{"installed", "installed", from(0, 1, api.PkInstall, next), nil},
		{"of an attempt of its own", "all but one are ready", from(1, 0, api.PkInstall, led), nil},
	} {
		s := at[e.stage]
		v, m := s.v.Copy(), s.m.copy()
		what := fmt.Sprintf("kind %d, %s, %s", e.p.Kind, e.stage, e.what)
		expect(t, what, take(t, v, m, e.p, what), e.want...)
		probe(t, v, m, what)
	}
}

// No more than 16 messages are sent at one time, of its own or of the old configuration.
func TestNoMoreThan16AtOneTime(t *testing.T) {
	v, m := both(t, 1, 2, 3, 64, 0)
	c, next := name(5, 0), name(6, 0)
	take(t, v, m, gathering(0, 1, c, 3), "joining")
	take(t, v, m, committing(0, 1, c, 3, m.has), "joining")
	take(t, v, m, from(0, 1, api.PkInstall, c), "joining")
	for range 40 {
		cast(t, v, m, 0, "x", 0, "many")
	}
	seqs := func(l []api.Effect) (first, n uint32) {
		for i, e := range l {
			if e.Packet.M.Seq != l[0].Packet.M.Seq+uint32(i) {
				t.Fatal("not in order", show(l))
			}
		}
		if len(l) > 0 {
			first = l[0].Packet.M.Seq
		}
		return first, uint32(len(l))
	}
	for _, x := range [][3]uint32{{0, 1, 16}, {1, 1, 16}, {2, 2, 16}, {24, 24, 16}, {25, 25, 16}, {26, 26, 15}, {40, 40, 1}, {41, 0, 0}, {math.MaxUint32, 0, 0}} {
		if first, n := seqs(take(t, v, m, nack(0, 1, c, 1, x[0]), "many")); first != x[1] || n != x[2] {
			t.Errorf("from %d: %d from %d on", x[0], n, first)
		}
	}
	// 0 got three, and heard all up to their stamps: these are held no more.
	take(t, v, m, ack(0, 1, c, 9, 0, 9, 0, 3), "many")
	if first, n := seqs(take(t, v, m, nack(0, 1, c, 1, 1), "many")); first != 4 || n != 16 {
		t.Errorf("behind what is held no more: %d from %d on", n, first)
	}
	take(t, v, m, gathering(0, 1, next, 3), "many")
	for _, x := range [][3]uint32{{0, 4, 16}, {3, 4, 16}, {5, 5, 16}, {26, 26, 15}, {41, 0, 0}} {
		if first, n := seqs(take(t, v, m, asking(0, 1, next, 1, x[0]), "many")); first != x[1] || n != x[2] {
			t.Errorf("of the old one, from %d: %d from %d on", x[0], n, first)
		}
	}
}

// What all got is held no more; what somebody's last vector doesn't tell is.
func TestWhatIsHeld(t *testing.T) {
	c := name(5, 0)
	for _, x := range []struct {
		what string
		acks []api.Packet
		want uint32 // the first of its own that is held
	}{
		{"nobody told", nil, 1},
		{"one told", []api.Packet{ack(0, 1, c, 9, 0, 9, 0, 2)}, 1},
		{"both told", []api.Packet{ack(0, 1, c, 9, 0, 9, 0, 2), ack(2, 1, c, 9, 0, 9, 0, 1)}, 2},
		{"both told of more than there are", []api.Packet{ack(0, 1, c, 9, 0, 9, 0, 9), ack(2, 1, c, 9, 0, 9, 9, 9, 9)}, 4},
		{"one told of none", []api.Packet{ack(0, 1, c, 9, 0, 9, 0, 2), ack(2, 1, c, 9, 0, 9)}, 1},
		{"one told, ending ahead of me", []api.Packet{ack(0, 1, c, 9, 0, 9, 0, 2), ack(2, 1, c, 9, 0, 9, 5)}, 1},
		{"both told, and one of less behind that", []api.Packet{ack(0, 1, c, 9, 0, 9, 0, 2), ack(2, 1, c, 9, 0, 9, 0, 2), ack(2, 1, c, 9, 0, 9, 0, 1)}, 3},
		{"the last one told counts", []api.Packet{ack(0, 1, c, 9, 0, 9, 0, 2), ack(0, 1, c, 9, 0, 9, 0, 1), ack(2, 1, c, 9, 0, 9, 0, 2)}, 2},
		{"both told, but one wasn't heard", []api.Packet{ack(0, 1, c, 0, 0, 0, 0, 2), ack(2, 1, c, 9, 0, 9, 0, 2)}, 1},
		{"both told, but one wasn't heard far enough", []api.Packet{ack(0, 1, c, 1, 0, 0, 0, 2), ack(2, 1, c, 9, 0, 9, 0, 2)}, 2},
	} {
		v, m := joined(t)
		for range 3 {
			cast(t, v, m, 0, "x", 0, x.what)
		}
		for _, p := range x.acks {
			take(t, v, m, p, x.what)
		}
		l := take(t, v, m, nack(0, 1, c, 1, 0), x.what)
		if len(l) != int(4-x.want) || len(l) > 0 && l[0].Packet.M.Seq != x.want {
			t.Errorf("%s: %s", x.what, show(l))
		}
		probe(t, v, m, x.what)
	}
}

// What is left is delivered in the old one up to the boundary, and what is kept of the others on the way to the new one, by keys.
func TestInstallAtTheBoundary(t *testing.T) {
	c, next := name(5, 0), name(8, 0)
	for _, x := range []struct {
		boundary api.Key
		ahead    int
	}{
		{api.Key{}, 0}, {api.Key{Stamp: 2, From: 1}, 0}, {api.Key{Stamp: 2, From: 2}, 1}, {api.Key{Stamp: 3}, 1}, {api.Key{Stamp: 4}, 2}, {api.Key{Stamp: 4, From: 1}, 2}, {api.Key{Stamp: 4, From: 2}, 3}, {api.Key{Stamp: 5, From: -1}, 3}, {api.Key{Stamp: 5}, 4}, {api.Key{Stamp: math.MaxUint64}, 4},
	} {
		v, m := joined(t)
		l := []api.Message{msg(2, 1, 2, 2), msg(0, 1, 4, 2), msg(2, 2, 4, 0), msg(0, 2, 5, 2)}
		for _, y := range l {
			take(t, v, m, data(y.From, 1, c, y), "the boundary")
		}
		take(t, v, m, gathering(0, 1, next, 7), "the boundary")
		take(t, v, m, committing(0, 1, next, 7, exchange(0, c, x.boundary, 2, 0, 2), exchange(2, none, api.Key{Stamp: 99}, 9, 9, 9), exchange(1, c, api.Key{}, 2, 0, 2)), "the boundary")
		var want []api.Effect
		for i, y := range l {
			if i == x.ahead {
				want = append(want, trans(1, c, next, of(0, 1)))
			}
			if i < x.ahead {
				want = append(want, delivered(1, c, none, y))
			} else {
				want = append(want, delivered(1, c, next, y))
			}
		}
		if x.ahead == 4 {
			want = append(want, trans(1, c, next, of(0, 1)))
		}
		expect(t, fmt.Sprint(x), take(t, v, m, from(0, 1, api.PkInstall, next), "the boundary"), append(want, regular(1, next, 7))...)
		probe(t, v, m, "the boundary")
	}
}

// Whoever tells of processes from n on is taken at its word: they have messages that lack, and are members.
func TestProcessesFromNOn(t *testing.T) {
	v, m := joined(t)
	c, next := name(5, 0), name(8, 0)
	all := uint64(math.MaxUint64)
	take(t, v, m, gathering(0, 1, next, all), "from n on")
	count := make([]uint32, 64)
	count[4], count[63] = 2, 1
	l := take(t, v, m, committing(0, 1, next, all, exchange(1, c, api.Key{}), exchange(40, c, api.Key{}, count...)), "from n on")
	expect(t, "two lack", l, sent(asking(1, 40, next, 4, 1)), sent(asking(1, 40, next, 63, 1)))
	one, two, three := msg(4, 1, 3, 1), msg(4, 2, 5, 1), msg(63, 1, 4, 1)
	expect(t, "two lack", take(t, v, m, recovering(0, 1, next, 4, one), "from n on"), sent(asking(1, 40, next, 4, 2)), sent(asking(1, 40, next, 63, 1)))
	expect(t, "one lacks", take(t, v, m, recovering(0, 1, next, 63, three), "from n on"), sent(asking(1, 40, next, 4, 2)))
	expect(t, "none lacks", take(t, v, m, recovering(2, 1, next, 4, two), "from n on"), sent(from(1, 0, api.PkReady, next)))
	l = take(t, v, m, from(0, 1, api.PkInstall, next), "from n on")
	expect(t, "installed", l, trans(1, c, next, of(1, 40)), delivered(1, c, next, one), delivered(1, c, next, three), delivered(1, c, next, two), regular(1, next, all))
	x := api.Message{From: 1, Seq: 1, Stamp: 1, Deps: []uint32{0, 0, 0, 0}, Payload: "x"}
	want := []api.Effect{sending(1, next, x)}
	for p := range 64 {
		if p != 1 {
			want = append(want, sent(data(1, p, next, x)))
		}
	}
	l, _ = cast(t, v, m, 0, "x", 0, "from n on")
	expect(t, "to all", l, want...)
	probe(t, v, m, "from n on")
}

// What is told of one process, with a message of another one in it, counts by what is told; the message is put to its sender's.
func TestARecoveredMessageOfAnotherSender(t *testing.T) {
	c, next := name(5, 0), name(8, 0)
	for _, ready := range []bool{false, true} {
		v, m := joined(t)
		take(t, v, m, gathering(0, 1, next, 7), "another sender")
		x := []api.Exchange{exchange(0, c, api.Key{}, 2), m.has}
		if ready {
			x[0].Count = nil
			x[1].Count = []uint32{2, 0, 0} // what is told of me is so, too
		}
		take(t, v, m, committing(0, 1, next, 7, x...), "another sender")
		if ready {
			take(t, v, m, recovering(0, 1, next, 0, msg(0, 1, 1, 1)), "another sender")
			take(t, v, m, recovering(0, 1, next, 0, msg(0, 2, 3, 1)), "another sender")
		}
		if v.ready != ready {
			t.Fatal(v.ready)
		}
		var want []api.Effect
		if !ready {
			want = []api.Effect{sent(asking(1, 0, next, 0, 1))}
		}
		expect(t, "of 2, told of 0", take(t, v, m, recovering(0, 1, next, 0, msg(2, 1, 2, 1)), "another sender"), want...)
		expect(t, "of me, told of 0", take(t, v, m, recovering(0, 1, next, 0, msg(1, 1, 2, 1)), "another sender"), want...)
		expect(t, "of 0, told of 2", take(t, v, m, recovering(0, 1, next, 2, msg(0, 1, 1, 1)), "another sender"))
		expect(t, "of 2, told of me", take(t, v, m, recovering(0, 1, next, 1, msg(2, 2, 2, 1)), "another sender"))
		expect(t, "of 2, above what there is of 0", take(t, v, m, recovering(0, 1, next, 0, msg(2, 3, 2, 1)), "another sender"))
		expect(t, "asked for", take(t, v, m, asking(0, 1, next, 2, 1), "another sender"), sent(recovering(1, 0, next, 2, msg(2, 1, 2, 1))))
		probe(t, v, m, "another sender")
	}
}

// In a new configuration nothing is left of the one ahead of it: numbers, stamps, windows and what others told begin anew.
func TestANewConfigurationIsNew(t *testing.T) {
	v, m := busy(t)
	for range 2 {
		cast(t, v, m, 0, "x", 0, "new")
	}
	next := name(8, 0)
	take(t, v, m, gathering(0, 1, next, 7), "new")
	take(t, v, m, committing(0, 1, next, 7, m.has), "new")
	take(t, v, m, from(0, 1, api.PkInstall, next), "new")
	w, k := joined(t)
	for i := range 6 {
		a, e := cast(t, v, m, i%3, "x", 0, "new")
		b, f := cast(t, w, k, i%3, "x", 0, "new")
		if e != f || len(a) != len(b) {
			t.Fatal(i, e, f)
		}
		for j := range a {
			x, y := a[j], b[j]
			x.Packet.Conf, x.Event.Conf, y.Packet.Conf, y.Event.Conf = none, none, none, none
			if !alike([]api.Effect{x}, []api.Effect{y}) {
				t.Fatalf("%d: %s%s", i, show(a), show(b))
			}
		}
	}
	for _, p := range []int{0, 2} {
		take(t, v, m, data(p, 1, next, msg(p, 1, 1, 0)), "new")
		take(t, v, m, ack(p, 1, next, 9, 1, 9, 1, 4, 1), "new")
	}
	probe(t, v, m, "new")
}

// With an installed configuration the ear forgets what its members said, but not what others said, nor when it heard of them.
func TestTheEarForgets(t *testing.T) {
	v, m := both(t, 0, 4, 9, 4, 0)
	for p := 1; p < 3; p++ {
		take(t, v, m, beat(p, 0, name(1, p), name(3, p), 3), "forgets")
	}
	tick(t, v, m, "forgets")
	take(t, v, m, beat(3, 0, name(1, 3), name(1, 3), 40), "forgets")
	c := name(4, 0)
	for _, kind := range []int{api.PkExchange, api.PkReady} {
		for p := 1; p < 3; p++ {
			take(t, v, m, with(from(p, 0, kind, c), func(x *api.Packet) { x.X = []api.Exchange{exchange(p, name(1, p), api.Key{})} }), "forgets")
		}
	}
	if v.Conf() != c {
		t.Fatal(v.Conf())
	}
	for p, want := range []bool{false, false, false, true} {
		if _, ok := v.ear.Of(p); ok != want {
			t.Errorf("what %d said: %v", p, ok)
		}
	}
	if uint64(v.ear.Reach()) != 15 {
		t.Error(list(v.ear.Reach()))
	}
	// 3 is reached, and isn't a member: the next attempt goes above what it told.
	tick(t, v, m, "forgets")
	if v.promised != name(41, 0) || v.Open() {
		t.Error(v.promised)
	}
}

// P17.4: Tick.

// Each kind of tick, with all that it does, in its order.
func TestTicks(t *testing.T) {
	at := map[string]stage{}
	for _, s := range stages(t) {
		at[s.what] = s
	}
	c, next, led := name(5, 0), name(8, 0), name(6, 0)
	mine := exchange(1, c, api.Key{Stamp: 1}, 2, 2, 0, 0)
	lead := exchange(0, c, api.Key{Stamp: 1, From: 1}, 2, 1, 1, 0)
	one := exchange(1, c, api.Key{}, 1, 1)
	other := exchange(2, name(5, 2), api.Key{Stamp: 8}, 9, 9, 9)
	to := func(p api.Packet, l ...int) []api.Effect {
		var out []api.Effect
		for _, q := range l {
			out = append(out, sent(with(p, func(p *api.Packet) { p.To = q })))
		}
		return out
	}
	for _, e := range []struct {
		stage string
		beats []api.Effect
		want  []api.Effect
	}{
		{"alone", beats(1, name(1, 1), name(1, 1), 1, 2, 0, 2, 3), nil},
		{"alone, frozen", beats(1, name(1, 1), name(3, 3), 3, 2, 0, 2, 3), slices.Concat(to(exchanging(1, 3, name(3, 3), exchange(1, name(1, 1), api.Key{}, 0, 0, 0, 0)), 3),
			[]api.Effect{written(4)}, to(gathering(1, 0, name(4, 1), of(1, 3)), 3))}, // it is the least one that it reaches
		{"joined", beats(1, c, c, 5, 7, 0, 2, 3), to(ack(1, 0, c, 0, 0, 0, 0, 0, 0, 0), 0, 2)},
		{"busy", beats(1, c, c, 5, 7, 0, 2, 3), slices.Concat(to(ack(1, 0, c, 6, 2, 1, 2, 2, 0, 0), 0, 2), to(nack(1, 0, c, 0, 3), 0))},
		{"frozen", beats(1, c, next, 8, 7, 0, 2, 3), to(exchanging(1, 0, next, mine), 0)},
		{"two lack", beats(1, c, next, 8, 7, 0, 2, 3), slices.Concat(to(asking(1, 0, next, 0, 3), 0), to(asking(1, 2, next, 2, 1), 2))},
		{"one lacks", beats(1, c, next, 8, 7, 0, 2, 3), to(asking(1, 2, next, 2, 2), 2)},
		{"ready", beats(1, c, next, 8, 7, 0, 2, 3), to(from(1, 0, api.PkReady, next), 0)},
		{"installed", beats(1, next, next, 8, 7, 0, 2, 3), to(ack(1, 0, next, 0, 0, 0, 0, 0, 0, 0), 0, 2)},
		{"leading", beats(0, c, c, 5, 7, 1, 2, 3), to(ack(0, 1, c, 0, 0, 0, 0, 0, 0, 0), 1, 2)},
		{"leading, busy", beats(0, c, c, 5, 7, 1, 2, 3), slices.Concat(to(ack(0, 1, c, 4, 2, 3, 2, 1, 1, 0), 1, 2), to(nack(0, 2, c, 2, 2), 2))},
		{"frozen by 1, and the least", beats(0, c, name(7, 1), 7, 7, 1, 2, 3), slices.Concat(to(exchanging(0, 1, name(7, 1), lead), 1), []api.Effect{written(8)}, to(gathering(0, 1, next, 7), 1, 2))},
		{"committed by 1, and the least", beats(0, c, name(7, 1), 7, 7, 1, 2, 3), slices.Concat(to(asking(0, 1, name(7, 1), 0, 3), 1), []api.Effect{written(8)}, to(gathering(0, 1, next, 7), 1, 2))},
		{"an attempt", beats(0, c, led, 6, 7, 1, 2, 3), to(gathering(0, 1, led, 7), 1, 2)},
		{"one accepted", beats(0, c, led, 6, 7, 1, 2, 3), to(gathering(0, 1, led, 7), 2)},
		{"told, and one lacks", beats(0, c, led, 6, 7, 1, 2, 3), slices.Concat(to(committing(0, 1, led, 7, lead, exchange(1, c, api.Key{Stamp: 1}, 2, 2, 1), other), 1, 2), to(asking(0, 1, led, 1, 2), 1))},
		{"told, and none lacks", beats(0, c, led, 6, 7, 1, 2, 3), to(committing(0, 1, led, 7, lead, exchange(1, c, api.Key{Stamp: 1}, 2, 1, 1), other), 1, 2)},
		{"all but one are ready", beats(0, c, led, 6, 7, 1, 2, 3), to(committing(0, 1, led, 7, lead, exchange(1, c, api.Key{Stamp: 1}, 2, 1, 1), other), 1)},
	} {
		s := at[e.stage]
		v, m := s.v.Copy(), s.m.copy()
		expect(t, e.stage, tick(t, v, m, e.stage), append(e.beats, e.want...)...)
		probe(t, v, m, e.stage)
	}
	_ = one
}

// Another attempt begins where there is one and it fails, where one is needed, and where nobody lesser is there.
func TestWhenAnAttemptBegins(t *testing.T) {
	at := map[string]stage{}
	for _, s := range stages(t) {
		at[s.what] = s
	}
	c, led := name(5, 0), name(6, 0)
	for _, x := range []struct {
		what, stage string
		beats       []api.Packet // ahead of the last one of so many ticks
		ticks       int
		want        api.Conf // none, if none begins
		members     uint64
	}{
		{"nothing is amiss", "leading", nil, 1, none, 0},
		{"one more is there", "leading", []api.Packet{from(3, 0, 0, none)}, 1, led, 15},
		{"one more is there, who tells of a greater epoch", "leading", []api.Packet{beat(3, 0, name(2, 3), name(2, 3), 9)}, 1, name(10, 0), 15},
		{"one more is there, whose name is of a greater epoch", "leading", []api.Packet{beat(3, 0, name(9, 3), name(2, 3), 1)}, 1, name(10, 0), 15},
		{"one more is there, who promised a greater epoch", "leading", []api.Packet{beat(3, 0, name(2, 3), name(9, 3), 1)}, 1, name(10, 0), 15},
		{"one is gone", "leading", []api.Packet{from(1, 0, 0, none)}, 4, led, 3},
		{"all are gone", "leading", nil, 4, led, 1},
		{"none is gone yet", "leading", nil, 3, none, 0},
		{"one promised another name", "leading", []api.Packet{beat(2, 0, c, name(5, 1), 5)}, 1, led, 7},
		{"one promised an older name", "leading", []api.Packet{beat(2, 0, name(3, 2), name(3, 2), 3)}, 1, led, 7},
		{"all promised that very name", "leading", []api.Packet{beat(1, 0, c, c, 5), beat(2, 0, c, c, 5)}, 1, none, 0},
		{"one of an older configuration promised that very name", "leading", []api.Packet{beat(1, 0, name(1, 1), c, 9)}, 1, none, 0},
		{"one promised another name, and then that very one", "leading", []api.Packet{beat(2, 0, c, name(5, 1), 5), beat(2, 0, c, c, 5)}, 1, none, 0},
		{"not the least one, one more is there", "joined", []api.Packet{from(0, 1, 0, none), from(3, 1, 0, none)}, 1, none, 0},
		{"not the least one, one promised another name", "joined", []api.Packet{from(0, 1, 0, none), beat(2, 1, c, name(5, 1), 5)}, 1, none, 0},
		{"the least one is gone", "joined", []api.Packet{from(2, 1, 0, none)}, 4, name(6, 1), 6},
		{"the least one is gone, not the next one", "joined", []api.Packet{from(0, 1, 0, none)}, 4, none, 0},
		{"frozen, who represents it is there", "frozen", nil, 3, none, 0},
		{"frozen, and it is gone", "frozen", []api.Packet{from(2, 1, 0, none)}, 4, name(9, 1), 6},
		{"frozen, and all are gone", "frozen", nil, 4, name(9, 1), 2},
		{"frozen, a lesser one is there", "frozen", []api.Packet{from(0, 1, 0, none)}, 9, none, 0},
		{"ready, and it is gone", "ready", []api.Packet{from(2, 1, 0, none)}, 4, name(9, 1), 6},
		{"frozen by a greater one", "frozen by 1, and the least", nil, 1, name(8, 0), 7},
		{"an attempt that goes on", "an attempt", nil, 1, none, 0},
		{"an attempt of which one is gone", "an attempt", []api.Packet{from(1, 0, 0, none)}, 3, name(7, 0), 3},
		{"an attempt beside which one is there", "an attempt", []api.Packet{from(3, 0, 0, none)}, 1, name(7, 0), 15},
		{"an attempt of which one promised a newer name", "an attempt", []api.Packet{beat(2, 0, c, name(6, 1), 6)}, 1, name(7, 0), 7},
		{"an attempt of which one promised a much newer name", "an attempt", []api.Packet{beat(2, 0, c, name(9, 1), 9)}, 1, name(10, 0), 7},
		{"an attempt of which one promised an older name", "an attempt", []api.Packet{beat(2, 0, c, name(5, 3), 9)}, 1, none, 0},
		{"an attempt of which one promised that very name", "an attempt", []api.Packet{beat(2, 0, c, led, 6)}, 1, none, 0},
		{"an attempt that is told goes on", "told, and one lacks", nil, 1, none, 0},
		{"an attempt that is told, of which one is gone", "told, and none lacks", []api.Packet{from(2, 0, 0, none)}, 4, name(7, 0), 5},
		{"an attempt that is told, of which one promised a newer name", "all but one are ready", []api.Packet{beat(1, 0, c, name(6, 1), 6)}, 1, name(7, 0), 7},
	} {
		s := at[x.stage]
		v, m := s.v.Copy(), s.m.copy()
		for range x.ticks - 1 {
			tick(t, v, m, x.what)
		}
		for _, p := range x.beats {
			take(t, v, m, p, x.what)
		}
		was, conf := v.promised, v.Conf()
		l := tick(t, v, m, x.what)
		var writes []api.Effect
		for _, e := range l {
			if e.Kind == api.FxWrite {
				writes = append(writes, e)
			}
		}
		switch {
		case x.want == none && (v.promised != was || len(writes) > 0):
			t.Errorf("%s: %v begins", x.what, v.promised)
		case x.want != none && (v.promised != x.want || !alike(writes, []api.Effect{written(x.want.Epoch)})):
			t.Errorf("%s: %v, want %v", x.what, v.promised, x.want)
		case x.want != none && x.members&(x.members-1) == 0 && (v.Conf() != x.want || uint64(v.Members()) != x.members):
			t.Errorf("%s: %v isn't installed", x.what, x.want)
		case x.want != none && x.members&(x.members-1) != 0 && (v.Conf() != conf || v.Open() || uint64(v.attempt.Members()) != x.members):
			t.Errorf("%s: an attempt of %v", x.what, v.attempt)
		}
		probe(t, v, m, x.what)
	}
}

// To each for whom a message of another member lacks, a packet of its own, by rising numbers, behind all others.
func TestTicksThatAskForWhatLacks(t *testing.T) {
	v, m := joined(t)
	c := name(5, 0)
	nacks := func(want ...api.Effect) {
		t.Helper()
		l := tick(t, v, m, "what lacks")
		for len(l) > 0 && l[0].Packet.Kind != api.PkNack {
			l = l[1:]
		}
		expect(t, "what lacks", l, want...)
		for p := range 3 {
			take(t, v, m, from(p, 1, 0, none), "what lacks")
		}
	}
	nacks()
	take(t, v, m, data(0, 1, c, msg(0, 3, 3, 0)), "what lacks")
	nacks() // nobody told that it sent any
	take(t, v, m, ack(2, 1, c, 1, 2, 0), "what lacks")
	nacks(sent(nack(1, 2, c, 2, 1)))
	take(t, v, m, ack(0, 1, c, 1, 2, 0), "what lacks")
	nacks(sent(nack(1, 0, c, 0, 1)), sent(nack(1, 2, c, 2, 1)))
	take(t, v, m, ack(2, 1, c, 1, 1, 0), "what lacks") // late
	take(t, v, m, data(2, 1, c, msg(2, 1, 1, 0)), "what lacks")
	nacks(sent(nack(1, 0, c, 0, 1)), sent(nack(1, 2, c, 2, 2)))
	take(t, v, m, data(0, 1, c, msg(0, 1, 1, 0)), "what lacks")
	nacks(sent(nack(1, 0, c, 0, 2)), sent(nack(1, 2, c, 2, 2)))
	take(t, v, m, data(0, 1, c, msg(0, 2, 2, 0)), "what lacks")
	take(t, v, m, data(2, 1, c, msg(2, 2, 2, 0)), "what lacks")
	nacks()
	take(t, v, m, ack(0, 1, c, 1, math.MaxUint32, 0), "what lacks")
	nacks(sent(nack(1, 0, c, 0, 4)))
	probe(t, v, m, "what lacks")
}

// All rows of a menu, at each stage.
func TestAllRowsOfAMenu(t *testing.T) {
	c, next, led := name(5, 0), name(8, 0), name(6, 0)
	do := func(p api.Packet) func(v *Evs, m *told) {
		return func(v *Evs, m *told) { take(t, v, m, p, "a menu") }
	}
	ticks := func(v *Evs, m *told) { tick(t, v, m, "a menu") }
	casts := func(v *Evs, m *told) { cast(t, v, m, len(m.row)%3, "x", 0, "a menu") }
	x := exchanges()
	follows := []func(v *Evs, m *told){ticks, casts,
		do(data(0, 1, c, msg(0, 3, 7, 2))), do(data(2, 1, c, msg(2, 1, 3, 1))), do(ack(0, 1, c, 8, 3, 8, 3, 1, 1)), do(ack(2, 1, c, 8, 3, 8, 3, 2, 1)),
		do(gathering(0, 1, next, 7)), do(gathering(2, 1, name(8, 2), 6)), do(committing(0, 1, next, 7, x...)), do(committing(2, 1, name(8, 2), 6, x...)),
		do(recovering(2, 1, next, 2, msg(2, 1, 3, 1))), do(recovering(2, 1, next, 2, msg(2, 2, 4, 1))), do(recovering(0, 1, next, 0, msg(0, 3, 7, 1))), do(from(0, 1, api.PkInstall, next)), do(beat(2, 1, c, name(7, 2), 9)),
	}
	leads := []func(v *Evs, m *told){ticks, casts,
		do(data(1, 0, c, msg(1, 2, 4, 2))), do(ack(1, 0, c, 8, 2, 8, 2, 2, 2)), do(ack(2, 0, c, 8, 1, 8, 2, 2, 1)), do(beat(1, 0, c, name(5, 1), 5)),
		do(exchanging(1, 0, led, exchange(1, c, api.Key{Stamp: 1}, 2, 2, 1))), do(exchanging(2, 0, led, x[2])), do(recovering(1, 0, led, 1, msg(1, 2, 4, 2))), do(recovering(2, 0, led, 2, msg(2, 2, 5, 1))),
		do(from(1, 0, api.PkReady, led)), do(from(2, 0, api.PkReady, led)), do(gathering(1, 0, name(7, 1), 3)), do(beat(2, 0, led, led, 6)),
	}
	var next3 func(v *Evs, m *told, menu []func(v *Evs, m *told), left int)
	next3 = func(v *Evs, m *told, menu []func(v *Evs, m *told), left int) {
		if left == 0 {
			return
		}
		for _, f := range menu {
			w, k := v.Copy(), m.copy()
			f(w, k)
			next3(w, k, menu, left-1)
		}
	}
	for _, s := range stages(t) {
		menu := follows
		if s.m.me == 0 {
			menu = leads
		}
		next3(s.v, s.m, menu, 3)
	}
}

// At each stage a copy is like what it was copied of, and each goes its own way.
func TestCopies(t *testing.T) {
	all := stages(t)
	var d turned = 5
	for _, s := range all {
		for range 12 {
			v, m := s.v.Copy(), s.m.copy()
			w, k := v.Copy(), m.copy()
			for range 12 {
				chance(t, &d, v, m, "what was copied")
			}
			u, l := w.Copy(), k.copy()
			for range 12 {
				chance(t, &d, w, k, "a copy")
			}
			same(t, u, l, "a copy of a copy")
			for range 6 {
				chance(t, &d, u, l, "a copy of a copy")
				chance(t, &d, v, m, "what was copied, later")
			}
			probe(t, v, m, "what was copied")
			probe(t, w, k, "a copy")
			probe(t, u, l, "a copy of a copy")
		}
		probe(t, s.v, s.m, s.what)
	}
}

// chance: a call that looks like chance; most of them are such as come to something.
func chance(t *testing.T, d *turned, v *Evs, m *told, what string) {
	t.Helper()
	switch d.below(12) {
	case 0:
		tick(t, v, m, what)
	case 1:
		cast(t, v, m, d.below(4)-d.below(2), "x", d.below(3)-1, what)
	case 2, 3, 4, 5, 6:
		take(t, v, m, likely(d, m), what)
	default:
		take(t, v, m, chancePacket(d, m), what)
	}
}

// likely: a packet by which m goes on.
func likely(d *turned, m *told) api.Packet {
	rep := m.promised.Rep
	switch {
	case !m.frozen && len(m.others()) > 0 && d.below(8) > 0:
		p := one(d, m.others()...)
		if d.below(3) == 0 {
			return ack(p, m.me, m.conf, m.clock, uint32(len(m.of(p))), m.clock, m.vector(m.n)...)
		}
		x := msg(p, uint32(len(m.of(p))+1), max(m.clock, 2)-1+uint64(d.below(4)), d.below(3))
		x.Deps = m.vector(m.n)
		return data(p, m.me, m.conf, x)
	case !m.frozen:
		p := d.below(m.n)
		return gathering(p, m.me, name(m.epoch+1, p), number(m.members)|of(p, m.me, d.below(m.n)))
	case m.attempt != nil && !m.attempt.told():
		p := one(d, m.attempt.waits()...)
		x := exchange(p, one(d, m.conf, m.conf, name(2, p)), m.last, m.vector(m.n)...)
		for i := range x.Count {
			x.Count[i] += uint32(d.below(5) / 4)
		}
		return exchanging(p, m.me, m.attempt.id, x)
	case m.attempt == nil && m.commit == nil:
		l := []api.Exchange{m.has}
		for q := range m.n {
			if q != m.me && d.below(2) == 0 {
				l = append(l, exchange(q, m.conf, m.last, m.vector(m.n)...))
				l[len(l)-1].Count[d.below(m.n)] += uint32(d.below(3))
			}
		}
		return committing(rep, m.me, m.promised, number(m.members)|of(m.me, rep), l...)
	case !m.ready:
		for q := range 64 {
			n := len(m.of(q))
			if most, holder := m.whole(q); uint32(n) < most && q != m.me {
				x := msg(q, uint32(n+1), m.clock+uint64(d.below(4)), d.below(3))
				x.Deps = m.vector(m.n)
				x.Deps[d.below(m.n)] += uint32(d.below(6) / 5)
				return recovering(holder, m.me, m.promised, q, x)
			}
		}
	}
	if m.attempt != nil {
		return from(one(d, m.attempt.waits()...), m.me, api.PkReady, m.promised)
	}
	return from(rep, m.me, api.PkInstall, m.promised)
}

// chancePacket: one that looks like chance, of names, numbers and messages that are near those that count.
func chancePacket(d *turned, m *told) api.Packet {
	p := d.below(m.n)
	if d.below(20) > 0 && len(m.others()) > 0 {
		p = one(d, m.others()...)
	}
	if m.frozen && d.below(2) == 0 {
		p = m.promised.Rep
	}
	kind := one(d, 1, 1, 1, 1, 2, 2, 2, 3, 4, 4, 5, 6, 6, 7, 7, 8, 9, 9, 9, 9, 10, 10, 11, 11, 12)
	c := m.conf
	if kind >= api.PkGather {
		c = m.promised
	}
	switch d.below(14) {
	case 0:
		c = one(d, names(m, p)...)
	case 1:
		c = name(m.epoch+1, p)
	}
	whom := one(d, p, m.me, d.below(m.n), d.below(m.n))
	members := number(m.members) | of(p, m.me)
	if d.below(3) == 0 {
		members = uint64(d.below(1<<min(m.n, 30))) | of(p)
	}
	count := func() []uint32 {
		l := m.vector(d.below(m.n + 2))
		for i := range l {
			if n := uint32(d.below(3)); d.below(3) == 0 && l[i] >= n {
				l[i] += 1 - n
			}
		}
		return l
	}
	x := msg(p, uint32(len(m.of(p))+1+one(d, 0, 0, 0, -1, 1, 2)), max(m.clock, 2)-1+uint64(d.below(3)), d.below(3))
	if kind == api.PkRecover {
		x = msg(whom, uint32(len(m.of(whom))+1), m.clock+uint64(d.below(3)), d.below(3))
	}
	if d.below(30) == 0 {
		x.From = d.below(m.n)
	}
	x.Deps = count()
	out := api.Packet{Kind: kind, From: p, To: m.me, Conf: c, M: x, Stamp: m.clock + uint64(d.below(4)), Sent: uint32(len(m.of(p)) + one(d, 0, 0, 0, 1)), Got: count(), Horizon: m.clock + uint64(d.below(2)), Whom: whom, Seq: uint32(d.below(4)), Members: members, Prom: one(d, names(m, p)...), Epoch: m.epoch - uint64(d.below(2))}
	if d.below(3) > 0 {
		out.Prom = m.conf
	}
	if kind == api.PkExchange || d.below(20) == 0 {
		out.X = []api.Exchange{exchange(p, one(d, m.conf, m.conf, name(2, p)), m.last, count()...)}
	} else if kind == api.PkCommit {
		out.X = []api.Exchange{m.has}
		for q := range m.n {
			if q != m.me && d.below(3) > 0 {
				out.X = append(out.X, exchange(q, one(d, m.conf, m.conf, m.conf, name(2, q)), api.Key{Stamp: m.last.Stamp + uint64(d.below(2)), From: d.below(m.n)}, count()...))
			}
		}
	}
	if d.below(60) == 0 {
		out.To = one(d, odd...)
	}
	if d.below(60) == 0 {
		out.From = one(d, odd...)
	}
	return out
}

func TestRowsThatLookLikeChance(t *testing.T) {
	var d turned = 9
	installs, kept := 0, 0
	for i := range 250 {
		n := 2 + d.below(5)
		if d.below(12) == 0 {
			n = 64
		}
		v, m := both(t, d.below(n), n, 1+d.below(5), 1+d.below(6), uint64(d.below(3)))
		if v == nil {
			t.Fatal("none")
		}
		what := fmt.Sprint("the row ", i)
		for range 160 {
			was := v.Conf()
			chance(t, &d, v, m, what)
			if v.Conf() != was && v.Members().Size() > 1 {
				installs++
			}
			kept = max(kept, len(m.puts))
			if d.below(50) == 0 {
				probe(t, v, m, what)
			}
		}
		probe(t, v, m, what)
	}
	if installs < 100 || kept < 10 {
		t.Errorf("only %d configurations of more than one were installed, with %d messages at most", installs, kept)
	}
}

// Which kind of packet does what is chosen by a table of method values in a function; effects are gathered by variadic calls; an embedded part keeps what is of one configuration.
func TestWays(t *testing.T) {
	values, variadic, embedded := 0, 0, map[string]bool{}
	look := func(n ast.Node) bool {
		switch x := n.(type) {
		case *ast.KeyValueExpr:
			if s, ok := x.Value.(*ast.SelectorExpr); ok && strings.HasPrefix(s.Sel.Name, "take") {
				values++
			}
		case *ast.FuncDecl:
			for _, f := range x.Type.Params.List {
				if _, ok := f.Type.(*ast.Ellipsis); ok {
					variadic++
				}
			}
		case *ast.TypeSpec:
			if s, ok := x.Type.(*ast.StructType); ok && x.Name.Name == "Evs" {
				for _, f := range s.Fields.List {
					if id, ok := f.Type.(*ast.Ident); ok && len(f.Names) == 0 {
						embedded[id.Name] = true
					}
				}
			}
		}
		return true
	}
	files, err := filepath.Glob("*.go")
	if err != nil {
		t.Fatal(err)
	}
	for _, name := range files {
		if strings.HasSuffix(name, "_test.go") {
			continue
		}
		f, err := parser.ParseFile(token.NewFileSet(), name, nil, 0)
		if err != nil {
			t.Fatal(err)
		}
		ast.Inspect(f, look)
	}
	if values != 11 || variadic == 0 || !embedded["place"] {
		t.Errorf("%d method values, %d variadic functions, embedded are %v", values, variadic, embedded)
	}
}
