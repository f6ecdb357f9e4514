package evs

import (
	"fmt"
	"maps"
	"reflect"
	"slices"
	"testing"

	"consort/api"
	"consort/set"
)

// told: a process as the chapter's words have it, with nothing of the layers below. It keeps all that it was told in its configuration, and works out from that anew how far all were heard, what is next, what lacks and what is kept.
type told struct {
	me, n, timeout, window int

	ticks int
	heard map[int]int        // the tick at which each one was heard of last
	beats map[int]api.Packet // the last one of each

	epoch          uint64
	promised, conf api.Conf
	members        []int // rising

	clock uint64
	sent  int
	came  map[int][]api.Message // what each stream took, as it came
	puts  []api.Message         // what came into the order, as it came
	acks  []api.Packet
	got   map[int]int // of mine, by each of the others
	done  map[int]int
	low   map[int]int
	last  api.Key

	frozen  bool
	has     api.Exchange
	commit  []api.Exchange // nil, without a plan
	joining []int
	ready   bool
	attempt *try

	out []api.Effect
	row []any // all calls, to be told where one goes wrong
}

// try: an attempt.
type try struct {
	id      api.Conf
	members []int
	x       map[int]api.Exchange
	ready   map[int]bool
}

// list: which processes are in it, rising.
func list(s set.Set) []int {
	var out []int
	for p := range 64 {
		if uint64(s)>>p%2 == 1 {
			out = append(out, p)
		}
	}
	return out
}

// number: these, as a number.
func number(l []int) uint64 {
	var n uint64
	for _, p := range l {
		n |= 1 << p
	}
	return n
}

func without(l []int, p int) []int {
	return slices.DeleteFunc(slices.Clone(l), func(q int) bool { return q == p })
}

func upto(n int) []int {
	var out []int
	for p := range n {
		out = append(out, p)
	}
	return out
}

// confAhead: does a come ahead of b?
func confAhead(a, b api.Conf) bool {
	return a.Epoch < b.Epoch || a.Epoch == b.Epoch && a.Rep < b.Rep
}

// keyAhead: does a come ahead of b?
func keyAhead(a, b api.Key) bool {
	return a.Stamp < b.Stamp || a.Stamp == b.Stamp && a.From < b.From
}

func keyOf(m api.Message) api.Key { return api.Key{Stamp: m.Stamp, From: m.From} }

func above(e uint64) uint64 {
	if e == 1<<64-1 {
		return e
	}
	return e + 1
}

func place64(l []uint32, p int) uint32 {
	if p >= 0 && p < len(l) {
		return l[p]
	}
	return 0
}

// newTold: nil, if there is no such process.
func newTold(me, n, timeout, window int, epoch uint64) (*told, []api.Effect) {
	if n < 1 || n > 64 || me < 0 || me >= n {
		return nil, nil
	}
	m := &told{me: me, n: n, timeout: timeout, window: min(max(window, 1), 64), heard: map[int]int{}, beats: map[int]api.Packet{}, epoch: above(epoch)}
	m.write()
	m.event(api.Event{Kind: api.EvStart})
	m.enter(api.Conf{Epoch: m.epoch, Rep: me}, []int{me})
	m.promised = m.conf
	return m, m.answer()
}

// enter: the configuration is that one, and nothing was told in it.
func (m *told) enter(c api.Conf, members []int) {
	m.conf, m.members = c, members
	m.clock, m.sent, m.puts, m.acks, m.last = 0, 0, nil, nil, api.Key{}
	m.came, m.got, m.done, m.low = map[int][]api.Message{}, map[int]int{}, map[int]int{}, map[int]int{}
	m.frozen, m.commit, m.attempt, m.ready, m.joining, m.has = false, nil, nil, false, nil, api.Exchange{}
	m.event(api.Event{Kind: api.EvRegular, Conf: c, Members: number(members)})
}

func (m *told) write() {
	m.out = append(m.out, api.Effect{Kind: api.FxWrite, Packet: api.Packet{Epoch: m.epoch}})
}

func (m *told) event(e api.Event) {
	e.Proc = m.me
	m.out = append(m.out, api.Effect{Kind: api.FxEvent, Event: e})
}

func (m *told) send(to []int, p api.Packet) {
	for _, q := range to {
		p.From, p.To = m.me, q
		m.out = append(m.out, api.Effect{Kind: api.FxSend, Packet: p})
	}
}

// answer: what came of a call.
func (m *told) answer() []api.Effect {
	out := m.out
	m.out = nil
	return out
}

// rep: whom it promised to.
func (m *told) rep() []int { return []int{m.promised.Rep} }

func (m *told) others() []int { return without(m.members, m.me) }

// of: what came into the order of q, in order.
func (m *told) of(q int) []api.Message {
	return slices.DeleteFunc(slices.Clone(m.puts), func(x api.Message) bool { return x.From != q })
}

// vector: how many of each of n came into the order.
func (m *told) vector(n int) []uint32 {
	out := make([]uint32, n)
	for _, x := range m.puts {
		if x.From < n {
			out[x.From]++
		}
	}
	return out
}

// marks: how far q was heard, and how far it heard all.
func (m *told) marks(q int) (heard, reached uint64) {
	n := 0
	for _, x := range m.puts {
		if x.From == q {
			n, heard = n+1, max(heard, x.Stamp)
		}
	}
	for _, a := range m.acks {
		if a.From == q {
			reached = max(reached, a.Horizon)
			if int(a.Sent) <= n {
				heard = max(heard, a.Stamp)
			}
		}
	}
	return heard, reached
}

// horizon: how far all were heard, and how far all heard all.
func (m *told) horizon() (all, safe uint64) {
	all = m.clock
	for _, q := range m.others() {
		heard, _ := m.marks(q)
		all = min(all, heard)
	}
	safe = all
	for _, q := range m.others() {
		_, reached := m.marks(q)
		safe = min(safe, reached)
	}
	return all, safe
}

// put: x comes into the order, if it is the next one of its sender.
func (m *told) put(x api.Message) bool {
	if x.From < 0 || x.From > 63 || int(x.Seq) != len(m.of(x.From))+1 {
		return false
	}
	m.puts = append(m.puts, x)
	return true
}

// take: x comes into the order of an open configuration.
func (m *told) take(x api.Message) {
	if slices.Contains(m.members, x.From) && m.put(x) {
		m.clock = max(m.clock, x.Stamp)
	}
}

// stream: x comes to that one's stream; what goes on there, in order, comes into the order.
func (m *told) stream(p int, x api.Message) {
	count := func() int {
		n := 0
		for slices.ContainsFunc(m.came[p], func(y api.Message) bool { return int(y.Seq) == n+1 }) {
			n++
		}
		return n
	}
	before := count()
	if int(x.Seq) <= before || int(x.Seq) > before+m.window || slices.ContainsFunc(m.came[p], func(y api.Message) bool { return y.Seq == x.Seq }) {
		return
	}
	m.came[p] = append(m.came[p], x)
	for s := before + 1; s <= count(); s++ {
		at := slices.IndexFunc(m.came[p], func(y api.Message) bool { return int(y.Seq) == s })
		m.take(m.came[p][at])
	}
}

// inOrder: of q's stream, how many came one behind the other.
func (m *told) inOrder(q int) uint32 {
	n := uint32(0)
	for slices.ContainsFunc(m.came[q], func(y api.Message) bool { return y.Seq == n+1 }) {
		n++
	}
	return n
}

// next: the place among puts of the message whose key comes first of all members' heads; -1, if there is none.
func (m *told) next() int {
	first := -1
	seen := map[int]int{}
	for i, x := range m.puts {
		seen[x.From]++
		if slices.Contains(m.members, x.From) && seen[x.From] == m.done[x.From]+1 && (first < 0 || keyAhead(keyOf(x), keyOf(m.puts[first]))) {
			first = i
		}
	}
	return first
}

func (m *told) deliver() {
	for {
		all, safe := m.horizon()
		i := m.next()
		if i < 0 || m.puts[i].Stamp > all || m.puts[i].Service == api.Safe && m.puts[i].Stamp > safe {
			break
		}
		x := m.puts[i]
		m.done[x.From]++
		m.last = keyOf(x)
		m.event(api.Event{Kind: api.EvDeliver, Conf: m.conf, M: x})
	}
	for _, q := range m.members {
		least := len(m.of(q))
		for _, p := range m.others() {
			var last []uint32
			for _, a := range m.acks {
				if a.From == p {
					last = a.Got
				}
			}
			least = min(least, int(place64(last, q)))
		}
		m.low[q] = max(m.low[q], min(least, m.done[q]))
	}
}

// again: at most 16 of q's messages that are held, from that number on.
func (m *told) again(q int, seq uint32) []api.Message {
	var out []api.Message
	for _, x := range m.of(q) {
		if int(x.Seq) > m.low[q] && x.Seq >= seq && len(out) < 16 {
			out = append(out, x)
		}
	}
	return out
}

// rest: all that was put and not delivered, by keys.
func (m *told) rest() []api.Message {
	var out []api.Message
	for _, x := range m.puts {
		if int(x.Seq) > m.done[x.From] {
			out = append(out, x)
		}
	}
	slices.SortStableFunc(out, func(a, b api.Message) int {
		switch {
		case keyAhead(keyOf(a), keyOf(b)):
			return -1
		case keyAhead(keyOf(b), keyOf(a)):
			return 1
		}
		return int(a.Seq) - int(b.Seq)
	})
	return out
}

// companions: the exchanges of those that come of me's old configuration.
func (m *told) companions() []api.Exchange {
	at := slices.IndexFunc(m.commit, func(x api.Exchange) bool { return x.Who == m.me })
	return slices.DeleteFunc(slices.Clone(m.commit), func(x api.Exchange) bool { return x.Old != m.commit[at].Old })
}

// whole: how many of q's messages some companion has, and the least one that has as many.
func (m *told) whole(q int) (n uint32, holder int) {
	for _, x := range m.companions() {
		if c := place64(x.Count, q); c > n || c == n && x.Who < holder {
			n, holder = c, x.Who
		}
	}
	return n, holder
}

func (m *told) boundary() api.Key {
	l := m.companions()
	k := l[0].Last
	for _, x := range l {
		if keyAhead(k, x.Last) {
			k = x.Last
		}
	}
	return k
}

// counts: is x of a process, and among those that some companion has?
func (m *told) counts(x api.Message) bool {
	if x.From < 0 || x.From > 63 {
		return false
	}
	n, _ := m.whole(x.From)
	return x.Seq > 0 && x.Seq <= n
}

// leans: does x lean on one that nobody has, or that is given up, or does it come behind such a one of its sender?
func (m *told) leans(x api.Message, given []api.Message) bool {
	for p, n := range x.Deps {
		whole := uint32(0)
		if p < 64 {
			whole, _ = m.whole(p)
		}
		if n > whole || slices.ContainsFunc(given, func(y api.Message) bool { return y.From == p && y.Seq <= n }) {
			return true
		}
	}
	return slices.ContainsFunc(given, func(y api.Message) bool { return y.From == x.From && y.Seq <= x.Seq })
}

// keep: what the plan keeps of these.
func (m *told) keep(rest []api.Message) []api.Message {
	var given []api.Message
	for range len(rest) + 1 {
		for _, x := range rest {
			if m.counts(x) && m.leans(x, given) {
				given = append(given, x)
			}
		}
	}
	return slices.DeleteFunc(slices.Clone(rest), func(x api.Message) bool {
		return !m.counts(x) || slices.ContainsFunc(given, func(y api.Message) bool { return y.From == x.From && y.Seq == x.Seq })
	})
}

// planned: is a plan made of these?
func planned(me int, l []api.Exchange) bool {
	seen := map[int]int{}
	for _, x := range l {
		seen[x.Who]++
		if x.Who < 0 || x.Who > 63 || seen[x.Who] > 1 {
			return false
		}
	}
	return seen[me] == 1
}

func (m *told) reach() []int {
	var out []int
	for p := range m.n {
		if at, ok := m.heard[p]; ok && m.ticks-at <= m.timeout || p == m.me {
			out = append(out, p)
		}
	}
	return out
}

func (m *told) freeze(name api.Conf) {
	m.promised, m.frozen, m.commit, m.attempt, m.ready, m.joining = name, true, nil, nil, false, nil
	m.has = api.Exchange{Who: m.me, Old: m.conf, Count: m.vector(m.n), Last: m.last}
}

func (m *told) begin() {
	e := m.epoch
	for _, b := range m.beats {
		e = max(e, b.Epoch, b.Conf.Epoch, b.Prom.Epoch)
	}
	m.epoch = above(e)
	m.write()
	m.freeze(api.Conf{Epoch: m.epoch, Rep: m.me})
	m.attempt = &try{id: m.promised, members: m.reach(), x: map[int]api.Exchange{m.me: m.has}, ready: map[int]bool{}}
	m.send(without(m.attempt.members, m.me), m.gathering())
	if m.attempt.told() {
		m.committing()
	}
}

func (a *try) told() bool { return len(a.x) == len(a.members) }

// exchanges: by rising processes.
func (a *try) exchanges() []api.Exchange {
	var out []api.Exchange
	for _, p := range a.members {
		if x, ok := a.x[p]; ok {
			out = append(out, x)
		}
	}
	return out
}

// waits: for whom it does.
func (a *try) waits() []int {
	return slices.DeleteFunc(slices.Clone(a.members), func(p int) bool {
		if a.told() {
			return a.ready[p]
		}
		_, ok := a.x[p]
		return ok
	})
}

func (m *told) gathering() api.Packet {
	return api.Packet{Kind: api.PkGather, Conf: m.promised, Members: number(m.attempt.members)}
}

func (m *told) exchanging() api.Packet {
	return api.Packet{Kind: api.PkExchange, Conf: m.promised, X: []api.Exchange{m.has}}
}

func (m *told) committed() api.Packet {
	return api.Packet{Kind: api.PkCommit, Conf: m.promised, Members: number(m.attempt.members), X: m.attempt.exchanges()}
}

func (m *told) committing() {
	m.send(without(m.attempt.members, m.me), m.committed())
	m.commit, m.joining = m.attempt.exchanges(), m.attempt.members
	m.goOn()
}

func (m *told) goOn() {
	lacks := false
	has := m.vector(64)
	for q := range 64 {
		if n, holder := m.whole(q); has[q] < n {
			lacks = true
			m.send([]int{holder}, api.Packet{Kind: api.PkAsk, Conf: m.promised, Whom: q, Seq: has[q] + 1})
		}
	}
	if lacks || m.ready {
		return
	}
	m.ready = true
	if m.promised.Rep != m.me {
		m.send(m.rep(), api.Packet{Kind: api.PkReady, Conf: m.promised})
		return
	}
	m.isReady(m.me)
}

// isReady: p is, of its attempt.
func (m *told) isReady(p int) {
	a := m.attempt
	if !a.told() || !slices.Contains(a.waits(), p) {
		return
	}
	a.ready[p] = true
	if len(a.waits()) == 0 {
		m.install()
		m.send(m.others(), api.Packet{Kind: api.PkInstall, Conf: m.conf})
	}
}

func (m *told) install() {
	var behind []api.Message
	var with []int
	for _, x := range m.rest() {
		if keyAhead(m.boundary(), keyOf(x)) {
			behind = append(behind, x)
		} else {
			m.event(api.Event{Kind: api.EvDeliver, Conf: m.conf, M: x})
		}
	}
	for _, x := range m.companions() {
		with = append(with, x.Who)
	}
	m.event(api.Event{Kind: api.EvTrans, Conf: m.conf, New: m.promised, Members: number(with)})
	for _, x := range m.keep(behind) {
		m.event(api.Event{Kind: api.EvDeliver, Conf: m.conf, New: m.promised, M: x})
	}
	m.enter(m.promised, m.joining)
	for _, p := range m.members {
		delete(m.beats, p)
	}
}

// Take: a packet comes.
func (m *told) Take(p api.Packet) []api.Effect {
	m.row = append(m.row, p)
	if p.To != m.me || p.From == m.me || p.From < 0 || p.From >= m.n {
		return nil
	}
	m.heard[p.From] = m.ticks
	from := []int{p.From}
	here := !m.frozen && p.Conf == m.conf && slices.Contains(m.members, p.From)
	coming := m.frozen && p.Conf == m.promised
	mine := m.attempt != nil && m.attempt.id == p.Conf
	both := p.Members>>m.me%2 == 1 && p.Members>>p.From%2 == 1
	switch {
	case p.Kind == api.PkData && here:
		m.stream(p.From, p.M)
		m.deliver()
	case p.Kind == api.PkAck && here:
		m.acks = append(m.acks, p)
		m.clock = max(m.clock, p.Stamp)
		m.got[p.From] = max(m.got[p.From], min(int(place64(p.Got, m.me)), m.sent))
		m.deliver()
	case p.Kind == api.PkNack && here && p.Whom == m.me:
		for _, x := range m.again(m.me, p.Seq) {
			m.send(from, api.Packet{Kind: api.PkData, Conf: m.conf, M: x})
		}
	case p.Kind == api.PkBeat:
		m.beats[p.From] = p
	case p.Kind == api.PkGather && both && p.From == p.Conf.Rep:
		switch {
		case confAhead(m.promised, p.Conf):
			if p.Conf.Epoch > m.epoch {
				m.epoch = p.Conf.Epoch
				m.write()
			}
			m.freeze(p.Conf)
			m.send(from, m.exchanging())
		case coming && m.commit == nil:
			m.send(from, m.exchanging())
		}
	case p.Kind == api.PkExchange && mine && len(p.X) == 1 && p.X[0].Who == p.From:
		if m.attempt.told() {
			m.send(from, m.committed())
		} else if slices.Contains(m.attempt.waits(), p.From) {
			m.attempt.x[p.From] = p.X[0]
			if m.attempt.told() {
				m.committing()
			}
		}
	case p.Kind == api.PkCommit && both && coming && m.commit == nil && p.From == m.promised.Rep && planned(m.me, p.X):
		m.commit, m.joining = p.X, list(set.Set(p.Members))
		m.goOn()
	case p.Kind == api.PkAsk && coming:
		for _, x := range m.again(p.Whom, p.Seq) {
			m.send(from, api.Packet{Kind: api.PkRecover, Conf: p.Conf, Whom: p.Whom, M: x})
		}
	case p.Kind == api.PkRecover && coming && m.commit != nil && p.Whom != m.me:
		if n, _ := m.whole(p.Whom); p.M.Seq <= n && m.put(p.M) {
			m.goOn()
		}
	case p.Kind == api.PkReady && mine:
		m.isReady(p.From)
	case p.Kind == api.PkReady && !m.frozen && p.Conf == m.conf && m.conf.Rep == m.me:
		m.send(from, api.Packet{Kind: api.PkInstall, Conf: m.conf})
	case p.Kind == api.PkInstall && coming && m.ready && p.From == m.promised.Rep:
		m.install()
	}
	return m.answer()
}

// Tick: the clock ticks.
func (m *told) Tick() []api.Effect {
	m.row = append(m.row, "a tick")
	m.ticks++
	m.send(without(upto(m.n), m.me), api.Packet{Kind: api.PkBeat, Conf: m.conf, Prom: m.promised, Epoch: m.epoch, Members: number(m.members)})
	represents := m.promised.Rep == m.me
	switch {
	case !m.frozen:
		all, _ := m.horizon()
		m.send(m.others(), api.Packet{Kind: api.PkAck, Conf: m.conf, Stamp: m.clock, Sent: uint32(m.sent), Got: m.vector(m.n), Horizon: all})
		for _, p := range m.others() {
			var most uint32
			for _, a := range m.acks {
				if a.From == p {
					most = max(most, a.Sent)
				}
			}
			if n := m.inOrder(p); n < most {
				m.send([]int{p}, api.Packet{Kind: api.PkNack, Conf: m.conf, Whom: p, Seq: n + 1})
			}
		}
	case !represents && m.commit == nil:
		m.send(m.rep(), m.exchanging())
	case !represents && !m.ready:
		m.goOn()
	case !represents:
		m.send(m.rep(), api.Packet{Kind: api.PkReady, Conf: m.promised})
	}
	if m.attempt != nil {
		p := m.gathering()
		if m.attempt.told() {
			p = m.committed()
		}
		m.send(without(m.attempt.waits(), m.me), p)
		if !m.ready && m.commit != nil {
			m.goOn()
		}
	}
	if m.must() {
		m.begin()
	}
	return m.answer()
}

// must: begin an attempt?
func (m *told) must() bool {
	reach := m.reach()
	if m.attempt != nil {
		for p, b := range m.beats {
			if slices.Contains(m.attempt.members, p) && confAhead(m.attempt.id, b.Prom) {
				return true
			}
		}
		return !slices.Equal(reach, m.attempt.members)
	}
	if reach[0] != m.me || m.frozen {
		return reach[0] == m.me
	}
	for p, b := range m.beats {
		if slices.Contains(reach, p) && b.Prom != m.conf {
			return true
		}
	}
	return !slices.Equal(reach, m.members)
}

// Cast: a message is sent.
func (m *told) Cast(service int, payload string, reserve int) ([]api.Effect, api.Errno) {
	m.row = append(m.row, [3]int{service, len(payload), reserve}) // a cast
	least := m.sent
	for _, p := range m.others() {
		least = min(least, m.got[p])
	}
	switch {
	case service < 0 || service > 2:
		return nil, api.ErrRange
	case len(payload) > 1024:
		return nil, api.ErrLong
	case m.frozen:
		return nil, api.ErrBlocked
	case m.sent-least >= m.window-max(reserve, 0):
		return nil, api.ErrFull
	}
	m.sent++
	m.clock = above(m.clock)
	x := api.Message{From: m.me, Seq: uint32(m.sent), Stamp: m.clock, Service: service, Payload: payload, Deps: make([]uint32, m.n)}
	for p := range m.n {
		x.Deps[p] = uint32(m.done[p])
	}
	m.take(x)
	m.event(api.Event{Kind: api.EvSend, Conf: m.conf, M: x})
	m.send(m.others(), api.Packet{Kind: api.PkData, Conf: m.conf, M: x})
	m.deliver()
	return m.answer(), api.OK
}

func (m *told) copy() *told {
	c := *m
	c.heard, c.beats, c.got, c.done, c.low = maps.Clone(m.heard), maps.Clone(m.beats), maps.Clone(m.got), maps.Clone(m.done), maps.Clone(m.low)
	c.puts, c.acks, c.row = slices.Clip(m.puts), slices.Clip(m.acks), slices.Clip(m.row)
	c.came = map[int][]api.Message{}
	for p, l := range m.came {
		c.came[p] = slices.Clip(l)
	}
	if a := m.attempt; a != nil {
		c.attempt = &try{id: a.id, members: a.members, x: maps.Clone(a.x), ready: maps.Clone(a.ready)}
	}
	return &c
}

// String: all that it was told.
func (m *told) String() string {
	s := fmt.Sprintf("process %d of %d, timeout %d, window %d:", m.me, m.n, m.timeout, m.window)
	for _, c := range m.row {
		s += fmt.Sprintf("\n\t%+v", c)
	}
	return s
}

// plain: an effect in memory of its own.
func plain(e api.Effect) api.Effect {
	e.Packet.M.Deps, e.Event.M.Deps, e.Packet.Got = ownList(e.Packet.M.Deps), ownList(e.Event.M.Deps), ownList(e.Packet.Got)
	e.Packet.X = slices.Clone(e.Packet.X)
	for i := range e.Packet.X {
		e.Packet.X[i].Count = ownList(e.Packet.X[i].Count)
	}
	e.Event.Names = slices.Clone(e.Event.Names)
	return e
}

// ownList: a list in memory of its own; nil for an empty one.
func ownList(l []uint32) []uint32 { return append([]uint32(nil), l...) }

// plainly: all of them, in memory of their own.
func plainly(l []api.Effect) []api.Effect {
	out := make([]api.Effect, 0, len(l))
	for _, e := range l {
		out = append(out, plain(e))
	}
	return out
}

// alike: are the two lists of effects the same, one by one? (A nil list is like an empty one.)
func alike(a, b []api.Effect) bool { return slices.EqualFunc(a, b, alikeEffect) }

func alikeEffect(a, b api.Effect) bool {
	return a.Kind == b.Kind && a.Data == b.Data && alikePacket(a.Packet, b.Packet) && alikeEvent(a.Event, b.Event)
}

func alikePacket(a, b api.Packet) bool {
	return a.Kind == b.Kind && a.From == b.From && a.To == b.To && a.Conf == b.Conf && alikeMessage(a.M, b.M) && a.Stamp == b.Stamp && a.Sent == b.Sent && slices.Equal(a.Got, b.Got) &&
		a.Horizon == b.Horizon && a.Whom == b.Whom && a.Seq == b.Seq && a.Members == b.Members && a.Prom == b.Prom && a.Epoch == b.Epoch && slices.EqualFunc(a.X, b.X, alikeExchange)
}

func alikeExchange(a, b api.Exchange) bool {
	return a.Who == b.Who && a.Old == b.Old && slices.Equal(a.Count, b.Count) && a.Last == b.Last
}

func alikeMessage(a, b api.Message) bool {
	return a.From == b.From && a.Seq == b.Seq && a.Stamp == b.Stamp && a.Service == b.Service && slices.Equal(a.Deps, b.Deps) && a.Payload == b.Payload
}

func alikeEvent(a, b api.Event) bool {
	return a.Kind == b.Kind && a.Proc == b.Proc && a.Conf == b.Conf && a.New == b.New && a.Members == b.Members && alikeMessage(a.M, b.M) && a.View == b.View && slices.Equal(a.Names, b.Names) && a.State == b.State
}

// What is held against each other is so in all fields, but for lists that are nil or empty.
func TestAlike(t *testing.T) {
	var each func(v reflect.Value, f func())
	each = func(v reflect.Value, f func()) {
		was := reflect.New(v.Type()).Elem()
		was.Set(v)
		switch v.Kind() {
		case reflect.Struct:
			for i := range v.NumField() {
				each(v.Field(i), f)
			}
			return
		case reflect.Slice:
			v.Set(reflect.MakeSlice(v.Type(), 0, 3))
			if !alike([]api.Effect{{}}, []api.Effect{{}}) {
				t.Error("an empty list isn't like nil")
			}
			v.Set(reflect.MakeSlice(v.Type(), 1, 1))
			f()
			each(v.Index(0), f)
		case reflect.Int:
			v.SetInt(1)
		case reflect.Uint32, reflect.Uint64:
			v.SetUint(1)
		case reflect.String:
			v.SetString("x")
		default:
			t.Fatal(v.Kind())
		}
		f()
		v.Set(was)
	}
	var e api.Effect
	n := 0
	each(reflect.ValueOf(&e).Elem(), func() {
		n++
		if alike([]api.Effect{e}, []api.Effect{{}}) || !alike([]api.Effect{e}, []api.Effect{plain(e)}) {
			t.Errorf("%+v", e)
		}
	})
	if n < 50 || alike([]api.Effect{{}}, nil) || !alike([]api.Effect{}, nil) {
		t.Error(n)
	}
}

// show: effects, to be read.
func show(l []api.Effect) string {
	s := ""
	for _, e := range l {
		switch e.Kind {
		case api.FxWrite:
			s += fmt.Sprintf("\n\twrite %d %+v", e.Packet.Epoch, e.Packet)
		case api.FxSend:
			s += fmt.Sprintf("\n\tsend %+v", e.Packet)
		case api.FxEvent:
			s += fmt.Sprintf("\n\ttell %+v", e.Event)
		default:
			s += fmt.Sprintf("\n\t? %+v", e)
		}
	}
	return s
}

// same: are v's answers to what changes nothing those of m? And twice, since they leave v as it is.
func same(t *testing.T, v *Evs, m *told, what string) {
	t.Helper()
	for range 2 {
		if v.Conf() != m.conf || uint64(v.Members()) != number(m.members) || v.Open() == m.frozen || v.Epoch() != m.epoch {
			t.Fatalf("%s: %v\n%v, %v, open %v, %d; want %v, %v, open %v, %d", what, m, v.Conf(), list(v.Members()), v.Open(), v.Epoch(), m.conf, m.members, !m.frozen, m.epoch)
		}
	}
}

// held: are the effects that came of a call those that should?
func held(t *testing.T, got, want []api.Effect, v *Evs, m *told, what string) []api.Effect {
	t.Helper()
	if !alike(got, want) {
		t.Fatalf("%s: %v\nanswers%s\nwant%s", what, m, show(got), show(want))
	}
	same(t, v, m, what)
	// What is handed on from here is a copy: what was answered is scribbled on, and if that is kept by v, it answers wrong from now on.
	out := plainly(got)
	scribble(t, got, what)
	return out
}

// lists: all lists of numbers in there, up to the end of their memory.
func lists(l []api.Effect) [][]uint32 {
	var out [][]uint32
	add := func(x []uint32) { out = append(out, x[:cap(x)]) }
	for _, e := range l {
		add(e.Packet.M.Deps)
		add(e.Packet.Got)
		add(e.Event.M.Deps)
		for _, x := range e.Packet.X {
			add(x.Count)
		}
	}
	return out
}

// scribble: on all that was answered; no two lists of it share memory.
func scribble(t *testing.T, l []api.Effect, what string) {
	t.Helper()
	all := lists(l)
	for i, x := range all {
		for j := range x {
			x[j] = uint32(i + 1000)
		}
	}
	for i, x := range all {
		for j := range x {
			if x[j] != uint32(i+1000) {
				t.Fatalf("%s: two lists of one answer share memory", what)
			}
		}
	}
	for i := range l {
		x := l[i].Packet.X[:cap(l[i].Packet.X)]
		for j := range x {
			x[j] = api.Exchange{Who: i + 1000}
		}
	}
	for i := range l {
		for _, x := range l[i].Packet.X {
			if x.Who != i+1000 {
				t.Fatalf("%s: two lists of one answer share memory", what)
			}
		}
		l[i] = api.Effect{}
	}
}

// spaced: a list like that one, with room behind it, which is marked.
func spaced(l []uint32) []uint32 { return append(append([]uint32(nil), l...), 77, 78)[:len(l)] }

// handed: a packet like p, with lists that have room behind them.
func handed(p api.Packet) api.Packet {
	p.M.Deps, p.Got = spaced(p.M.Deps), spaced(p.Got)
	x := append(slices.Clone(p.X), api.Exchange{Who: 77})[:len(p.X)]
	for i := range x {
		x[i].Count = spaced(x[i].Count)
	}
	p.X = x
	return p
}

// intact: is p as it was handed in, with what stands behind its lists?
func intact(p, was api.Packet) bool {
	ok := func(l []uint32) bool {
		l = l[:len(l)+2]
		return l[len(l)-2] == 77 && l[len(l)-1] == 78
	}
	all := ok(p.M.Deps) && ok(p.Got) && p.X[:len(p.X)+1][len(p.X)].Who == 77
	for _, x := range p.X {
		all = all && ok(x.Count)
	}
	return all && alike([]api.Effect{{Packet: p}}, []api.Effect{{Packet: was}})
}

// take: p comes to both; what v makes of it is held against m, and so is what it keeps of it, since what was handed in is scribbled on.
func take(t *testing.T, v *Evs, m *told, p api.Packet, what string) []api.Effect {
	t.Helper()
	h := handed(p)
	got := v.Take(h)
	if !intact(h, p) {
		t.Fatalf("%s: %v\n%+v was handed in, and is %+v", what, m, p, h)
	}
	want := m.Take(p)
	scribble(t, []api.Effect{{Packet: h}}, what)
	return held(t, got, want, v, m, what)
}

// tick: the clock of both ticks.
func tick(t *testing.T, v *Evs, m *told, what string) []api.Effect {
	t.Helper()
	got := v.Tick()
	return held(t, got, m.Tick(), v, m, what)
}

// cast: both send a message.
func cast(t *testing.T, v *Evs, m *told, service int, payload string, reserve int, what string) ([]api.Effect, api.Errno) {
	t.Helper()
	got, e := v.Cast(service, payload, reserve)
	want, f := m.Cast(service, payload, reserve)
	if e != f || e != api.OK && len(got) > 0 {
		t.Fatalf("%s: %v\nanswers %d, %s; want %d", what, m, e, show(got), f)
	}
	return held(t, got, want, v, m, what), e
}

// both: a process and what it is by the words; nil, where there is none.
func both(t *testing.T, me, n, timeout, window int, epoch uint64) (*Evs, *told) {
	t.Helper()
	what := fmt.Sprintf("New(%d, %d, %d, %d, %d)", me, n, timeout, window, epoch)
	v, got := New(me, n, timeout, window, epoch)
	m, want := newTold(me, n, timeout, window, epoch)
	if v == nil || m == nil {
		if v != nil || m != nil || len(got) > 0 {
			t.Fatalf("%s: %v, want %v", what, v, m)
		}
		return nil, nil
	}
	held(t, got, want, v, m, what)
	return v, m
}
