package evs

import (
	"slices"

	"consort/api"
	"consort/heard"
	"consort/key"
	"consort/plan"
	"consort/set"
)

// taker: what takes packets of a kind; nil, if nothing does.
func (v *Evs) taker(kind int) func(p api.Packet) []api.Effect {
	table := [...]func(p api.Packet) []api.Effect{
		api.PkData:     v.takeData,
		api.PkAck:      v.takeAck,
		api.PkNack:     v.takeNack,
		api.PkBeat:     v.takeBeat,
		api.PkGather:   v.takeGather,
		api.PkExchange: v.takeExchange,
		api.PkCommit:   v.takeCommit,
		api.PkAsk:      v.takeAsk,
		api.PkRecover:  v.takeRecover,
		api.PkReady:    v.takeReady,
		api.PkInstall:  v.takeInstall,
	}
	if kind < 0 || kind >= len(table) {
		return nil
	}
	return table[kind]
}

// Take: a packet comes.
func (v *Evs) Take(p api.Packet) []api.Effect {
	if p.To != v.me || p.From == v.me || !set.All(v.n).Has(p.From) {
		return nil
	}
	v.ear.Hear(p.From)
	take := v.taker(p.Kind)
	if take == nil {
		return nil
	}
	return take(p)
}

// here: is p of the configuration, and a member's, and is that open still?
func (v *Evs) here(p api.Packet) bool {
	return !v.frozen && p.Conf == v.conf && v.members.Has(p.From)
}

// coming: is p of the configuration that it promised, and isn't that installed yet?
func (v *Evs) coming(p api.Packet) bool { return v.frozen && p.Conf == v.promised }

// takeData: a message.
func (v *Evs) takeData(p api.Packet) []api.Effect {
	if !v.here(p) {
		return nil
	}
	l, _ := v.peers[p.From].stream.Take(p.M)
	for _, m := range l {
		v.order.Take(m)
	}
	return v.deliver()
}

// takeAck: what a member heard and got.
func (v *Evs) takeAck(p api.Packet) []api.Effect {
	if !v.here(p) {
		return nil
	}
	v.order.Promise(p.From, p.Stamp, p.Sent)
	v.order.Reached(p.From, p.Horizon)
	v.window.Got(p.From, at(p.Got, v.me))
	o := &v.peers[p.From]
	o.sent = max(o.sent, p.Sent)
	o.got = slices.Clone(p.Got)
	return v.deliver()
}

// takeNack: a member lacks messages of its own.
func (v *Evs) takeNack(p api.Packet) []api.Effect {
	if !v.here(p) || p.Whom != v.me {
		return nil
	}
	return v.again(api.Packet{Kind: api.PkData, Conf: v.conf}, v.me, p.Seq, p.From)
}

// takeBeat: a process is there.
func (v *Evs) takeBeat(p api.Packet) []api.Effect {
	v.ear.Beat(p.From, heard.Beat{Conf: p.Conf, Prom: p.Prom, Epoch: p.Epoch})
	return nil
}

// takeGather: a configuration is proposed.
func (v *Evs) takeGather(p api.Packet) []api.Effect {
	if !among(p.Members, v.me, p.From) || p.From != p.Conf.Rep {
		return nil
	}
	newer := key.Confs(p.Conf, v.promised)
	switch {
	case newer > 0:
		out := v.raise(p.Conf.Epoch)
		v.freeze(p.Conf)
		return append(out, v.send(v.exchanging(), p.From)...)
	case newer == 0 && v.frozen && v.plan == nil:
		return v.send(v.exchanging(), p.From)
	}
	return nil
}

// raise: its epoch is that one, if that is greater.
func (v *Evs) raise(epoch uint64) []api.Effect {
	if epoch <= v.epoch {
		return nil
	}
	v.epoch = epoch
	return v.write()
}

// takeExchange: a process accepts its attempt.
func (v *Evs) takeExchange(p api.Packet) []api.Effect {
	switch {
	case !v.tries(p.Conf) || len(p.X) != 1 || p.X[0].Who != p.From:
		return nil
	case v.attempt.Told():
		return v.send(v.committing(), p.From)
	case v.attempt.Add(p.X[0]):
		return v.commit()
	}
	return nil
}

// takeCommit: all have accepted.
func (v *Evs) takeCommit(p api.Packet) []api.Effect {
	if !among(p.Members, v.me, p.From) || !v.coming(p) || v.plan != nil || p.From != v.promised.Rep {
		return nil
	}
	l, ok := plan.New(v.me, p.X)
	if !ok {
		return nil
	}
	v.plan, v.joining = l, set.Set(p.Members)
	return v.goOn()
}

// takeAsk: a process lacks messages of its old configuration.
func (v *Evs) takeAsk(p api.Packet) []api.Effect {
	if !v.coming(p) {
		return nil
	}
	return v.again(api.Packet{Kind: api.PkRecover, Conf: p.Conf, Whom: p.Whom}, p.Whom, p.Seq, p.From)
}

// takeRecover: a message that perhaps lacks.
func (v *Evs) takeRecover(p api.Packet) []api.Effect {
	if !v.coming(p) || v.plan == nil || p.Whom == v.me || p.M.Seq > v.plan.Whole(p.Whom) {
		return nil
	}
	if e := v.order.Put(p.M); e != api.OK {
		return nil
	}
	return v.goOn()
}

// takeReady: nothing lacks a process, or it hasn't heard yet that the configuration is installed.
func (v *Evs) takeReady(p api.Packet) []api.Effect {
	switch {
	case v.tries(p.Conf):
		if v.attempt.Ready(p.From) {
			return v.finish()
		}
	case !v.frozen && p.Conf == v.conf && v.conf.Rep == v.me:
		return v.send(v.installing(), p.From)
	}
	return nil
}

// takeInstall: all are ready.
func (v *Evs) takeInstall(p api.Packet) []api.Effect {
	if !v.coming(p) || !v.ready || p.From != v.promised.Rep {
		return nil
	}
	return v.install()
}

// among: are these processes all among those members?
func among(members uint64, l ...int) bool { return set.Of(l...).In(set.Set(members)) }
