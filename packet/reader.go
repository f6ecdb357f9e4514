package packet

import (
	"consort/api"
	"consort/frame"
	"consort/num"
)

// reader goes through a packet's body. What may not be read is given up by a panic of its error, as what lacks is by the reader that is embedded.
type reader struct {
	*num.Reader
}

// packet: the one of the frame f, in whose body r stands at the first byte.
func (r reader) packet(f frame.Frame) api.Packet {
	p := api.Packet{Kind: f.Kind, From: f.From, To: f.To, Conf: r.conf()}
	switch p.Kind {
	case api.PkData:
		p.M = r.message(p.From)
	case api.PkAck:
		p.Stamp, p.Sent, p.Got, p.Horizon = r.Num(8), r.four(), r.vector(), r.Num(8)
	case api.PkNack, api.PkAsk:
		p.Whom, p.Seq = r.process(), r.four()
	case api.PkBeat:
		p.Prom, p.Epoch, p.Members = r.conf(), r.Num(8), r.Num(8)
	case api.PkGather:
		p.Members = r.Num(8)
	case api.PkExchange:
		p.X = []api.Exchange{r.exchange()}
	case api.PkCommit:
		p.Members, p.X = r.Num(8), r.exchanges()
	case api.PkRecover:
		p.Whom = r.process()
		p.M = r.message(p.Whom)
	}
	return p
}

func (r reader) four() uint32 { return uint32(r.Num(4)) }

// small: a number of n bytes, which is 0 to most.
func (r reader) small(n, most int, e api.Errno) int { return within(int(r.Num(n)), most, e) }

func (r reader) process() int { return r.small(1, api.MaxProcs-1, api.ErrRange) }

func (r reader) conf() api.Conf { return api.Conf{Epoch: r.Num(8), Rep: r.process()} }

func (r reader) key() api.Key { return api.Key{Stamp: r.Num(8), From: r.process()} }

func (r reader) vector() []uint32 {
	v := make([]uint32, r.small(1, maxCount, api.ErrLong))
	for i := range v {
		v[i] = r.four()
	}
	return v
}

// message: sent by from, whom the packet tells.
func (r reader) message(from int) api.Message {
	return api.Message{
		From:    from,
		Seq:     r.four(),
		Stamp:   r.Num(8),
		Service: r.small(1, api.Safe, api.ErrRange),
		Deps:    r.vector(),
		Payload: r.Text(r.small(2, api.MaxPayload, api.ErrLong)),
	}
}

func (r reader) exchange() api.Exchange {
	return api.Exchange{Who: r.process(), Old: r.conf(), Count: r.vector(), Last: r.key()}
}

func (r reader) exchanges() []api.Exchange {
	l := make([]api.Exchange, r.small(1, maxCount, api.ErrLong))
	for i := range l {
		l[i] = r.exchange()
	}
	return l
}
