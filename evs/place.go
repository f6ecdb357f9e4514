package evs

import (
	"slices"

	"consort/api"
	"consort/link"
	"consort/order"
	"consort/set"
	"consort/stream"
)

// place: what a process has of its configuration.
type place struct {
	me      int
	conf    api.Conf
	members set.Set
	order   *order.Order
	window  *link.Window
	peers   [api.MaxProcs]peer
}

// peer: what it has of another member; of what is none, nothing.
type peer struct {
	stream *stream.Stream
	sent   uint32   // the greatest number that it told to have sent
	got    []uint32 // the last vector that it told to have got; another one comes in its place, it is never changed
}

// newPlace: me's, in a configuration of which nothing was told.
func newPlace(me int, conf api.Conf, members set.Set, size int) place {
	c := place{me: me, conf: conf, members: members, order: order.New(me, members), window: link.New(me, members, size)}
	for _, p := range c.others() {
		c.peers[p].stream = stream.New(size)
	}
	return c
}

// others: the other members, rising.
func (c *place) others() []int { return c.members.Less(c.me).List() }

// exchange: what me has of the configuration, with places for n processes.
func (c *place) exchange(n int) api.Exchange {
	return api.Exchange{Who: c.me, Old: c.conf, Count: c.order.Vector(n), Last: c.order.Last()}
}

// deliver: what is ripe; what all members got of that is held no more.
func (c *place) deliver() []api.Effect {
	out := c.delivered(api.Conf{}, c.order.Drain()...)
	c.trim()
	return out
}

// delivered: it is told of each of these, on the way to another configuration, if that isn't none.
func (c *place) delivered(to api.Conf, l ...api.Message) []api.Effect {
	var out []api.Effect
	for _, m := range l {
		out = append(out, c.tell(api.Event{Kind: api.EvDeliver, Conf: c.conf, New: to, M: m})...)
	}
	return out
}

// trim: what each member is known to have got is held no more, once it was delivered.
func (c *place) trim() {
	others := c.others()
	for _, q := range c.members.List() {
		upto := c.order.Count(q)
		for _, p := range others {
			upto = min(upto, at(c.peers[p].got, q))
		}
		c.order.Trim(q, upto)
	}
}

// regular: that the configuration is installed.
func (c *place) regular() api.Event {
	return api.Event{Kind: api.EvRegular, Conf: c.conf, Members: uint64(c.members)}
}

// tell: each of these is told, as me's. (Its lists are the effect's own from here on.)
func (c *place) tell(l ...api.Event) []api.Effect {
	var out []api.Effect
	for _, e := range l {
		e.Proc = c.me
		out = append(out, api.Effect{Kind: api.FxEvent, Event: e})
	}
	return out
}

// send: that packet, as me's, to each of these. (Each has lists of its own.)
func (c *place) send(p api.Packet, to ...int) []api.Effect {
	var out []api.Effect
	for _, q := range to {
		p.From, p.To = c.me, q
		p.M, p.Got, p.X = own(p.M), slices.Clone(p.Got), slices.Clone(p.X)
		for i := range p.X {
			p.X[i].Count = slices.Clone(p.X[i].Count)
		}
		out = append(out, api.Effect{Kind: api.FxSend, Packet: p})
	}
	return out
}

// again: a process's messages that are held, from that number on, as many as go at one time at most: each to one process, in a packet like p.
func (c *place) again(p api.Packet, whom int, seq uint32, to int) []api.Effect {
	var out []api.Effect
	for _, m := range c.order.From(whom, seq, api.MaxResend) {
		p.M = m
		out = append(out, c.send(p, to)...)
	}
	return out
}

// copy: one like it, that goes its own way.
func (c *place) copy() place {
	out := *c
	out.order, out.window = c.order.Copy(), c.window.Copy()
	for _, p := range c.others() {
		out.peers[p].stream = c.peers[p].stream.Copy()
	}
	return out
}

// at: what a vector tells of q; 0 behind its end.
func at(l []uint32, q int) uint32 {
	if q >= len(l) {
		return 0
	}
	return l[q]
}

// own: m in memory of its own.
func own(m api.Message) api.Message {
	m.Deps = slices.Clone(m.Deps)
	return m
}
