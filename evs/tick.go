package evs

import (
	"slices"

	"consort/api"
	"consort/gather"
	"consort/set"
)

// Tick: the clock ticks. (What it does comes in this order.)
func (v *Evs) Tick() []api.Effect {
	v.ear.Tick()
	return slices.Concat(v.beats(), v.acks(), v.nacks(), v.follow(), v.lead(), v.renew())
}

// beats: it is there.
func (v *Evs) beats() []api.Effect {
	p := api.Packet{Kind: api.PkBeat, Conf: v.conf, Prom: v.promised, Epoch: v.epoch, Members: uint64(v.members)}
	return v.send(p, set.All(v.n).Less(v.me).List()...)
}

// acks: open, what it heard and got.
func (v *Evs) acks() []api.Effect {
	if v.frozen {
		return nil
	}
	p := api.Packet{Kind: api.PkAck, Conf: v.conf, Stamp: v.order.Clock(), Sent: v.window.Sent(), Got: v.order.Vector(v.n), Horizon: v.order.All()}
	return v.send(p, v.others()...)
}

// nacks: open, what lacks of the others' messages.
func (v *Evs) nacks() []api.Effect {
	if v.frozen {
		return nil
	}
	var out []api.Effect
	for _, p := range v.others() {
		if seq, ok := v.peers[p].stream.Lacks(v.peers[p].sent); ok {
			out = append(out, v.send(api.Packet{Kind: api.PkNack, Conf: v.conf, Whom: p, Seq: seq}, p)...)
		}
	}
	return out
}

// follow: frozen for another process's attempt, what that waits for.
func (v *Evs) follow() []api.Effect {
	switch {
	case !v.frozen || v.represents():
		return nil
	case v.plan == nil:
		return v.send(v.exchanging(), v.promised.Rep)
	case !v.ready:
		return v.goOn()
	}
	return v.send(v.readying(), v.promised.Rep)
}

// lead: with an attempt, what those don't know yet for whom that waits.
func (v *Evs) lead() []api.Effect {
	if v.attempt == nil {
		return nil
	}
	p := v.gathering()
	if v.attempt.Told() {
		p = v.committing()
	}
	out := v.send(p, v.attempt.Waits().Less(v.me).List()...)
	if v.plan != nil && !v.ready {
		out = append(out, v.goOn()...)
	}
	return out
}

// renew: another attempt, where one is needed.
func (v *Evs) renew() []api.Effect {
	if v.outdated() {
		return v.begin()
	}
	return nil
}

// outdated: must it begin another attempt?
func (v *Evs) outdated() bool {
	reach := v.ear.Reach()
	switch {
	case v.attempt != nil:
		return gather.Fails(v.attempt, reach, v.proms())
	case !v.frozen:
		return gather.Needs(v.conf, v.members, reach, v.ear.Strange(reach, v.conf), v.me)
	}
	return reach.Min() == v.me
}

// proms: what each process that told anything has promised.
func (v *Evs) proms() map[int]api.Conf {
	out := map[int]api.Conf{}
	for p := range v.n {
		if b, ok := v.ear.Of(p); ok {
			out[p] = b.Prom
		}
	}
	return out
}
