package evs

import (
	"slices"

	"consort/api"
	"consort/gather"
	"consort/key"
	"consort/plan"
	"consort/set"
)

// change: how far a process is on its way to the configuration that it promised; the zero one, while it is open.
type change struct {
	frozen  bool
	told    api.Exchange    // what it had when it froze; it is never changed
	plan    *plan.Plan      // perhaps none yet; it is never changed
	joining set.Set         // with a plan: the new members
	ready   bool            // nothing lacks
	attempt *gather.Attempt // none, unless it represents what it promised
}

// copy: one like it, that goes its own way.
func (c *change) copy() change {
	out := *c
	if c.attempt != nil {
		out.attempt = c.attempt.Copy()
	}
	return out
}

// tries: does it have an attempt of that name?
func (c *change) tries(name api.Conf) bool { return c.attempt != nil && c.attempt.ID() == name }

// write: its epoch is.
func (v *Evs) write() []api.Effect {
	return []api.Effect{{Kind: api.FxWrite, Packet: api.Packet{Epoch: v.epoch}}}
}

// represents: does it represent the name that it promised?
func (v *Evs) represents() bool { return v.promised.Rep == v.me }

// freeze: it promises that name, and no message is taken any more but those that lack.
func (v *Evs) freeze(name api.Conf) {
	v.promised = name
	v.change = change{frozen: true, told: v.exchange(v.n)}
}

// begin: an attempt at a configuration of all that it reaches.
func (v *Evs) begin() []api.Effect {
	v.epoch = key.Above(v.epoch, v.ear.Epoch())
	v.freeze(api.Conf{Epoch: v.epoch, Rep: v.me})
	v.attempt = gather.New(v.promised, v.ear.Reach())
	told := v.attempt.Add(v.told)
	out := slices.Concat(v.write(), v.send(v.gathering(), v.attempt.Members().Less(v.me).List()...))
	if told {
		out = append(out, v.commit()...)
	}
	return out
}

// gathering: the packet by which its attempt is proposed.
func (v *Evs) gathering() api.Packet {
	return api.Packet{Kind: api.PkGather, Conf: v.promised, Members: uint64(v.attempt.Members())}
}

// exchanging: the packet by which it tells what it had when it froze.
func (v *Evs) exchanging() api.Packet {
	return api.Packet{Kind: api.PkExchange, Conf: v.promised, X: []api.Exchange{v.told}}
}

// committing: the packet that tells all members' exchanges.
func (v *Evs) committing() api.Packet {
	return api.Packet{Kind: api.PkCommit, Conf: v.promised, Members: uint64(v.attempt.Members()), X: v.attempt.Exchanges()}
}

// readying: the packet that says that nothing lacks.
func (v *Evs) readying() api.Packet {
	return api.Packet{Kind: api.PkReady, Conf: v.promised}
}

// installing: the packet that says that the configuration is installed.
func (v *Evs) installing() api.Packet {
	return api.Packet{Kind: api.PkInstall, Conf: v.conf}
}

// commit: all exchanges are there.
func (v *Evs) commit() []api.Effect {
	p := v.committing()
	out := v.send(p, v.attempt.Members().Less(v.me).List()...)
	v.plan, _ = plan.New(v.me, p.X)
	v.joining = v.attempt.Members()
	return append(out, v.goOn()...)
}

// goOn: what lacks is asked for; if nothing does, it is ready.
func (v *Evs) goOn() []api.Effect {
	var out []api.Effect
	for _, g := range v.plan.Lacks(v.order.Vector(api.MaxProcs)) {
		out = append(out, v.send(api.Packet{Kind: api.PkAsk, Conf: v.promised, Whom: g.Whom, Seq: g.From}, g.Holder)...)
	}
	switch {
	case len(out) > 0 || v.ready:
		return out
	case !v.represents():
		v.ready = true
		return v.send(v.readying(), v.promised.Rep)
	}
	v.ready = true
	if v.attempt.Ready(v.me) {
		return v.finish()
	}
	return nil
}

// finish: all are ready.
func (v *Evs) finish() []api.Effect {
	out := v.install()
	return append(out, v.send(v.installing(), v.others()...)...)
}

// install: what is left is delivered, as far as the plan has it, and the configuration that it promised is the one that it has.
func (v *Evs) install() []api.Effect {
	rest := v.order.Rest()
	ahead := slices.IndexFunc(rest, v.beyond)
	if ahead < 0 {
		ahead = len(rest)
	}
	out := slices.Concat(
		v.delivered(api.Conf{}, rest[:ahead]...),
		v.tell(api.Event{Kind: api.EvTrans, Conf: v.conf, New: v.promised, Members: uint64(v.plan.Companions())}),
		v.delivered(v.promised, v.plan.Keep(rest[ahead:])...),
	)
	v.place = newPlace(v.me, v.promised, v.joining, v.size)
	v.change = change{}
	v.ear.Forget(v.members)
	return append(out, v.tell(v.regular())...)
}

// beyond: is m behind the plan's boundary? (What is left comes by rising keys, so that what is stands at the end.)
func (v *Evs) beyond(m api.Message) bool { return key.Compare(key.Of(m), v.plan.Boundary()) > 0 }
