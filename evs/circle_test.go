package evs

import (
	"fmt"
	"slices"
	"testing"

	"consort/api"
	"consort/set"
)

// P17.5: of processes that run this, whatever comes, is lost, doubled, late.

// stay: of a process, in a configuration.
type stay struct {
	proc          int
	conf          api.Conf
	members       uint64
	trans         *api.Event
	went          bool // it went on to the next one
	ahead, behind []api.Message
}

// place of a message: its configuration, its sender, its number.
type spot struct {
	conf api.Conf
	from int
	seq  uint32
}

// watch: looks at all events of a circle, one by one.
type watch struct {
	t       *testing.T
	what    string
	at      map[int]*stay // where each process is
	last    map[int]api.Conf
	members map[api.Conf]uint64
	sent    map[spot]api.Message
	stays   map[api.Conf][]*stay

	regulars, several, crashes, deliveries, safe, onTheWay, together int
}

func newWatch(t *testing.T, what string) *watch {
	return &watch{t: t, what: what, at: map[int]*stay{}, last: map[int]api.Conf{}, members: map[api.Conf]uint64{}, sent: map[spot]api.Message{}, stays: map[api.Conf][]*stay{}}
}

func spotOf(c api.Conf, m api.Message) spot { return spot{c, m.From, m.Seq} }

func (w *watch) fail(e api.Event, why string) {
	w.t.Helper()
	w.t.Fatalf("%s: %s: %+v", w.what, why, e)
}

// see: an event.
func (w *watch) see(e api.Event) {
	w.t.Helper()
	s := w.at[e.Proc]
	if e.Kind != api.EvStart && e.Kind != api.EvStop && e.Kind != api.EvRegular && (s == nil || s.conf != e.Conf) {
		w.fail(e, "not there")
	}
	switch e.Kind {
	case api.EvStart, api.EvStop:
		delete(w.at, e.Proc)
	case api.EvRegular:
		w.regular(e, s)
	case api.EvTrans:
		if s.trans != nil || !confAhead(e.Conf, e.New) || e.Members>>e.Proc%2 != 1 {
			w.fail(e, "a second way, or none to go")
		}
		s.trans = &e
	case api.EvSend:
		if _, ok := w.sent[spotOf(e.Conf, e.M)]; ok || s.trans != nil || e.M.From != e.Proc {
			w.fail(e, "sent twice, or late")
		}
		w.sent[spotOf(e.Conf, e.M)] = e.M
	case api.EvDeliver:
		w.deliver(e, s)
	default:
		w.fail(e, "no such event")
	}
}

// regular: names rise, those of one name have the same members, and those that went to it together delivered the same.
func (w *watch) regular(e api.Event, s *stay) {
	w.t.Helper()
	if members, ok := w.members[e.Conf]; ok && members != e.Members || e.Members>>e.Proc%2 != 1 {
		w.fail(e, "other members")
	}
	w.members[e.Conf] = e.Members
	if !confAhead(w.last[e.Proc], e.Conf) {
		w.fail(e, "the name doesn't rise")
	}
	w.last[e.Proc] = e.Conf
	if s != nil {
		if s.trans == nil || s.trans.New != e.Conf || s.trans.Members&^e.Members != 0 {
			w.fail(e, "another way")
		}
		s.went = true
		for _, o := range w.stays[s.conf] {
			if o != s && o.went && o.trans.New == e.Conf {
				w.companions(e, s, o)
			}
		}
	}
	w.at[e.Proc] = &stay{proc: e.Proc, conf: e.Conf, members: e.Members}
	w.stays[e.Conf] = append(w.stays[e.Conf], w.at[e.Proc])
	w.regulars++
	if e.Members&(e.Members-1) != 0 {
		w.several++
	}
}

func (w *watch) companions(e api.Event, s, o *stay) {
	w.t.Helper()
	w.together++
	if s.proc == o.proc || s.trans.Members != o.trans.Members || s.trans.Members>>o.proc%2 != 1 || !slices.EqualFunc(s.ahead, o.ahead, alikeMessage) || !slices.EqualFunc(s.behind, o.behind, alikeMessage) {
		w.fail(e, fmt.Sprintf("not the same as %d, or not as its companion:\n%v, %v\n%v, %v", o.proc, s.ahead, s.behind, o.ahead, o.behind))
	}
}

// deliver: a message as it was sent, once, in the order of keys, behind those that its sender had delivered.
func (w *watch) deliver(e api.Event, s *stay) {
	w.t.Helper()
	if m, ok := w.sent[spotOf(e.Conf, e.M)]; !ok || !alikeMessage(m, e.M) {
		w.fail(e, "not as it was sent")
	}
	all := slices.Concat(s.ahead, s.behind)
	if n := len(all); n > 0 && !keyAhead(keyOf(all[n-1]), keyOf(e.M)) {
		w.fail(e, "not in the order of keys")
	}
	count := map[int]uint32{}
	for _, m := range all {
		count[m.From]++
		if spotOf(e.Conf, m) == spotOf(e.Conf, e.M) {
			w.fail(e, "delivered twice")
		}
	}
	for p, n := range e.M.Deps {
		if count[p] < n {
			w.fail(e, fmt.Sprint("behind too few of ", p))
		}
	}
	w.deliveries++
	if e.M.Service == api.Safe {
		w.safe++
	}
	if s.trans == nil && e.New == none {
		s.ahead = append(s.ahead, e.M)
	} else if s.trans != nil && e.New == s.trans.New {
		s.behind = append(s.behind, e.M)
		w.onTheWay++
	} else {
		w.fail(e, "on another way")
	}
}

// judge: what one delivered as safe, all did that went on from there: of all members, or of those that went the same way.
func (w *watch) judge() {
	w.t.Helper()
	for c, l := range w.stays {
		for _, a := range l {
			for _, b := range l {
				if a == b || !b.went {
					continue
				}
				must := a.ahead
				if a.trans != nil && a.trans.Members>>b.proc%2 == 1 {
					must = slices.Concat(a.ahead, a.behind)
				}
				got := slices.Concat(b.ahead, b.behind)
				for _, m := range must {
					if m.Service == api.Safe && a.members>>b.proc%2 == 1 && !slices.ContainsFunc(got, func(x api.Message) bool { return alikeMessage(x, m) }) {
						w.t.Fatalf("%s: %d delivered %+v in %v, which is safe; %d didn't", w.what, a.proc, m, c, b.proc)
					}
				}
			}
		}
	}
}

// weather: how often, of 100, a packet is lost, doubled; how late it may be; how often, of 1000 steps, some are cut off, and one stops; how often a step is broken off.
type weather struct {
	lost, doubled, late, cuts, stops, breaks int
}

// circle: processes, and the packets under way.
type circle struct {
	t          *testing.T
	d          *turned
	timeout, n int
	window     int
	weather
	v     []*Evs
	m     []*told // none, where they aren't held against the words
	disk  []uint64
	bag   []api.Packet
	cut   set.Set
	watch *watch
	said  int
}

func newCircle(t *testing.T, d *turned, what string, n, timeout, window int, w weather, words bool) *circle {
	t.Helper()
	c := &circle{t: t, d: d, n: n, timeout: timeout, window: window, weather: w, v: make([]*Evs, n), disk: make([]uint64, n), watch: newWatch(t, what)}
	if words {
		c.m = make([]*told, n)
	}
	for p := range n {
		c.start(p)
	}
	return c
}

// apply: the effects of a step of p, up to where it is broken off.
func (c *circle) apply(p int, l []api.Effect) {
	c.t.Helper()
	end := -1
	if c.breaks > 0 && c.d.below(1000) < c.breaks {
		end = c.d.below(6)
	}
	for i, e := range l {
		if i == end {
			c.watch.crashes++
			c.stop(p)
			return
		}
		switch e.Kind {
		case api.FxWrite:
			if e.Packet.Epoch <= c.disk[p] {
				c.t.Fatalf("%s: %d writes %d behind %d", c.watch.what, p, e.Packet.Epoch, c.disk[p])
			}
			c.disk[p] = e.Packet.Epoch
		case api.FxSend:
			if e.Packet.From == p {
				c.bag = append(c.bag, e.Packet)
			}
		case api.FxEvent:
			if e.Event.Proc != p {
				c.t.Fatalf("%s: %d tells as %d", c.watch.what, p, e.Event.Proc)
			}
			c.watch.see(e.Event)
		}
	}
}

func (c *circle) start(p int) {
	c.t.Helper()
	var l, want []api.Effect
	c.v[p], l = New(p, c.n, c.timeout, c.window, c.disk[p])
	if c.m != nil {
		c.m[p], want = newTold(p, c.n, c.timeout, c.window, c.disk[p])
		l = held(c.t, l, want, c.v[p], c.m[p], c.watch.what)
	}
	c.apply(p, l)
}

func (c *circle) stop(p int) {
	c.v[p] = nil
	c.watch.see(api.Event{Kind: api.EvStop, Proc: p})
}

func (c *circle) tick(p int) {
	c.t.Helper()
	switch {
	case c.v[p] == nil:
	case c.m != nil:
		c.apply(p, tick(c.t, c.v[p], c.m[p], c.watch.what))
	default:
		c.apply(p, c.v[p].Tick())
	}
}

func (c *circle) cast(p, service, reserve int) bool {
	c.t.Helper()
	if c.v[p] == nil {
		return false
	}
	c.said++
	var l []api.Effect
	var e api.Errno
	if c.m != nil {
		l, e = cast(c.t, c.v[p], c.m[p], service, fmt.Sprint(c.said), reserve, c.watch.what)
	} else {
		l, e = c.v[p].Cast(service, fmt.Sprint(c.said), reserve)
	}
	c.apply(p, l)
	return e == api.OK
}

// come: a packet comes, if who sent it isn't cut off, and its receiver is up.
func (c *circle) come(p api.Packet) {
	c.t.Helper()
	switch {
	case c.cut.Has(p.From) != c.cut.Has(p.To) || c.v[p.To] == nil:
	case c.m != nil:
		c.apply(p.To, take(c.t, c.v[p.To], c.m[p.To], p, c.watch.what))
	default:
		// Nothing of it may be shared by two that get it.
		c.apply(p.To, c.v[p.To].Take(plain(api.Effect{Packet: p}).Packet))
	}
}

// step: one that looks like chance.
func (c *circle) step() {
	c.t.Helper()
	d, p := c.d, c.d.below(c.n)
	switch k := d.below(1000); {
	case k < c.cuts:
		c.cut = set.Set(d.below(1 << c.n))
	case k < c.cuts*3/2:
		c.cut = 0
	case k < c.cuts*3/2+c.stops && c.v[p] != nil:
		c.stop(p)
	case k < c.cuts*3/2+c.stops*4:
		if c.v[p] == nil {
			c.start(p)
		}
	case k < 170:
		c.tick(p)
	case k < 270:
		c.cast(p, d.below(3), d.below(3))
	case len(c.bag) > 0:
		i := d.below(min(len(c.bag), 1+c.late))
		x, luck := c.bag[i], d.below(100)
		if luck >= c.doubled {
			c.bag = slices.Delete(c.bag, i, i+1)
		}
		if luck < c.doubled || luck >= c.doubled+c.lost {
			c.come(x)
		}
	}
}

// round: each one ticks, and then all that is under way comes, but not what comes of that.
func (c *circle) round() {
	c.t.Helper()
	for p := range c.n {
		c.tick(p)
	}
	for range len(c.bag) {
		x := c.bag[0]
		c.bag = c.bag[1:]
		c.come(x)
	}
}

// settled: are those of s open, in one configuration of just them?
func (c *circle) settled(s set.Set) bool {
	for _, p := range list(s) {
		v := c.v[p]
		if !v.Open() || v.Members() != s || v.Conf() != c.v[s.Min()].Conf() {
			return false
		}
	}
	return true
}

// settle: nothing is lost any more within parts, all are up: how many rounds it takes till each part is in one configuration of just its own, and stays there.
func (c *circle) settle(cut set.Set) int {
	c.t.Helper()
	c.weather, c.cut = weather{}, cut
	for p := range c.n {
		if c.v[p] == nil {
			c.start(p)
		}
	}
	all := set.All(c.n)
	parts := []set.Set{all.Both(cut), all.But(cut)}
	calm, n := 0, 0
	for ; calm < 2*c.timeout+2; n++ {
		c.round()
		calm++
		for _, s := range parts {
			if !c.settled(s) {
				calm = 0
			}
		}
		if n > 100+8*c.timeout {
			for p, v := range c.v {
				c.t.Logf("%d: %v %v open %v, promised %v", p, v.Conf(), list(v.Members()), v.Open(), v.promised)
			}
			c.t.Fatalf("%s: it doesn't settle", c.watch.what)
		}
	}
	return n - calm
}

// talk: in a calm configuration of s, each one sends a message of each service; they come to all, in one order.
func (c *circle) talk(s set.Set) {
	c.t.Helper()
	conf := c.v[s.Min()].Conf()
	want := 0
	for service := range 3 {
		for _, p := range list(s) {
			if c.cast(p, service, 0) {
				want++
			}
		}
	}
	at := map[int]int{}
	for _, p := range list(s) {
		at[p] = len(c.watch.at[p].ahead)
	}
	for range 6 {
		c.round()
	}
	if want == 0 {
		c.t.Fatalf("%s: all casts are refused", c.watch.what)
	}
	var first []api.Message
	for _, p := range list(s) {
		l := c.watch.at[p].ahead
		if c.v[p].Conf() != conf {
			c.t.Fatalf("%s: %d went on", c.watch.what, p)
		}
		if p == s.Min() {
			first = l
		}
		if !slices.EqualFunc(l, first, alikeMessage) {
			c.t.Fatalf("%s: %d: %v, want %v", c.watch.what, p, l, first)
		}
	}
	n := 0
	for k := range c.watch.sent {
		if k.conf == conf {
			n++
		}
	}
	if len(first) != n {
		c.t.Fatalf("%s: %d of %d came", c.watch.what, len(first), n)
	}
}

// sums: what all circles of a test came to.
func (w *watch) add(o *watch) {
	w.regulars, w.several, w.crashes, w.deliveries = w.regulars+o.regulars, w.several+o.several, w.crashes+o.crashes, w.deliveries+o.deliveries
	w.safe, w.onTheWay, w.together = w.safe+o.safe, w.onTheWay+o.onTheWay, w.together+o.together
}

var weathers = []weather{
	{},
	{late: 5},
	{late: 40, lost: 10, doubled: 10},
	{late: 40, lost: 15, doubled: 15, cuts: 3},
	{late: 20, lost: 5, doubled: 5, cuts: 6, stops: 1, breaks: 3},
	{late: 100, lost: 5, doubled: 40, cuts: 2, stops: 2, breaks: 5},
	{late: 10, lost: 50, cuts: 1, stops: 1},
	{late: 300, doubled: 25, cuts: 10, stops: 1, breaks: 20},
}

func TestCircles(t *testing.T) {
	var d turned = 3
	sum := newWatch(t, "all")
	rounds := 0
	for i := range 320 {
		w := weathers[i%len(weathers)]
		c := newCircle(t, &d, fmt.Sprintf("the circle %d, %+v", i, w), 2+d.below(5), 1+d.below(7), 1+d.below(8), w, false)
		for range 1200 {
			c.step()
		}
		if i%3 == 0 {
			cut := set.Set(d.below(1 << c.n))
			rounds = max(rounds, c.settle(cut))
			for _, s := range []set.Set{set.All(c.n).Both(cut), set.All(c.n).But(cut)} {
				if s != 0 {
					c.talk(s)
				}
			}
		}
		rounds = max(rounds, c.settle(0))
		c.talk(set.All(c.n))
		c.watch.judge()
		sum.add(c.watch)
	}
	t.Logf("%d configurations entered, %d of more than one; %d steps broken off; %d messages delivered, %d of them safe, %d on the way; %d times two went on together; settled behind %d rounds", sum.regulars, sum.several, sum.crashes, sum.deliveries, sum.safe, sum.onTheWay, sum.together, rounds)
	if sum.several < 1000 || sum.crashes < 100 || sum.safe < 5000 || sum.onTheWay < 1000 || sum.together < 500 {
		t.Error("too little came about")
	}
}

// Circles, of whom each step is held against the words.
func TestCirclesByTheWords(t *testing.T) {
	var d turned = 8
	sum := newWatch(t, "all")
	for i := range 96 {
		w := weathers[i%len(weathers)]
		c := newCircle(t, &d, fmt.Sprintf("the circle %d by the words, %+v", i, w), 2+d.below(4), 1+d.below(7), 1+d.below(5), w, true)
		for range 1000 {
			c.step()
		}
		c.settle(0)
		c.talk(set.All(c.n))
		c.watch.judge()
		sum.add(c.watch)
	}
	t.Logf("%d configurations entered, %d of more than one; %d messages delivered, %d on the way", sum.regulars, sum.several, sum.deliveries, sum.onTheWay)
	if sum.several < 200 || sum.onTheWay < 200 {
		t.Error("too little came about")
	}
}

// Circles of many, up to all 64.
func TestCirclesOfMany(t *testing.T) {
	var d turned = 12
	for _, n := range []int{1, 9, 17, 64} {
		c := newCircle(t, &d, fmt.Sprint("a circle of ", n), n, 2, 64, weather{late: 20}, false)
		c.settle(0)
		c.talk(set.All(n))
		if n > 1 && n < 64 {
			cut := set.All(n / 3)
			c.settle(cut)
			c.talk(cut)
			c.talk(set.All(n).But(cut))
			c.settle(0)
			c.talk(set.All(n))
		}
		c.watch.judge()
	}
}

// Two that are parted with unlike messages: what one of them alone has is delivered by it alone, and what is left over comes by keys on its way.
func TestPartedAndTogether(t *testing.T) {
	var d turned
	c := newCircle(t, &d, "parted", 3, 2, 8, weather{}, true)
	c.settle(0)
	conf := c.v[0].Conf()
	if conf.Rep != 0 {
		t.Fatal(conf)
	}
	for range 3 {
		c.cast(2, api.Safe, 0)
	}
	c.bag = slices.DeleteFunc(c.bag, func(p api.Packet) bool { return p.Kind == api.PkData && (p.To == 0 || p.M.Seq > 1) })
	for _, p := range c.bag {
		c.come(p)
	}
	c.bag = nil
	c.settle(set.Of(2))
	// 1 alone had 2's first message: so 0 got it, on the way. 2 delivered all three on its own.
	for p, want := range []int{1, 1, 3} {
		s := c.watch.stays[conf]
		at := slices.IndexFunc(s, func(x *stay) bool { return x.proc == p })
		if s[at].trans == nil || len(s[at].behind) != want || len(s[at].ahead) != 0 {
			t.Errorf("%d: %+v", p, s[at])
		}
	}
	c.settle(0)
	c.talk(set.All(3))
	c.watch.judge()
}

// One that stops amid a step, ahead of each of its effects, starts anew above what it wrote, and all come together.
func TestAStepBrokenOffAnywhere(t *testing.T) {
	for _, breaks := range []int{0, 1, 2, 3, 4, 5, 6, 7, 8} {
		for who := range 3 {
			var d turned
			c := newCircle(t, &d, fmt.Sprintf("%d stops ahead of the effect %d", who, breaks), 3, 2, 8, weather{}, false)
			c.settle(0)
			for p := range 3 {
				c.cast(p, p, 0)
			}
			c.cut = set.Of(2 - who)
			stopped := 0
			for i := range 30 {
				for p := range 3 {
					if v := c.v[p]; v != nil && p == who && i%4 == 3 && stopped < 3 {
						l := v.Tick()
						c.apply(p, l[:min(breaks, len(l))])
						c.stop(p)
						stopped++
						was := c.disk[p]
						c.start(p)
						if c.v[p].Epoch() != was+1 {
							t.Fatal(c.v[p].Epoch(), was)
						}
					} else {
						c.tick(p)
					}
				}
				for range len(c.bag) {
					x := c.bag[0]
					c.bag = c.bag[1:]
					c.come(x)
				}
				if i == 15 {
					c.cut = 0
				}
			}
			c.settle(0)
			c.talk(set.All(3))
			c.watch.judge()
		}
	}
}
