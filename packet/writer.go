package packet

import (
	"strings"

	"consort/api"
	"consort/num"
)

// writer puts a packet's fields one behind the other. What may not be written is given up by a panic of its error.
type writer struct {
	strings.Builder
}

// body: the fields that p's kind names, in their order.
func (w *writer) body(p api.Packet) {
	w.conf(p.Conf)
	switch p.Kind {
	case api.PkData:
		w.message(p.M)
	case api.PkAck:
		w.put(p.Stamp, 8)
		w.put(uint64(p.Sent), 4)
		w.vector(p.Got)
		w.put(p.Horizon, 8)
	case api.PkNack, api.PkAsk:
		w.process(p.Whom)
		w.put(uint64(p.Seq), 4)
	case api.PkBeat:
		w.conf(p.Prom)
		w.put(p.Epoch, 8)
		w.put(p.Members, 8)
	case api.PkGather:
		w.put(p.Members, 8)
	case api.PkExchange:
		w.only(p.X)
	case api.PkCommit:
		w.put(p.Members, 8)
		w.exchanges(p.X)
	case api.PkRecover:
		w.process(p.Whom)
		w.message(p.M)
	}
}

func (w *writer) put(v uint64, n int) { w.Write(num.Put(nil, v, n)) }

// small: v in n bytes, which is 0 to most.
func (w *writer) small(v, n, most int, e api.Errno) { w.put(uint64(within(v, most, e)), n) }

func (w *writer) process(p int) { w.small(p, 1, api.MaxProcs-1, api.ErrRange) }

func (w *writer) conf(c api.Conf) {
	w.put(c.Epoch, 8)
	w.process(c.Rep)
}

func (w *writer) key(k api.Key) {
	w.put(k.Stamp, 8)
	w.process(k.From)
}

func (w *writer) vector(v []uint32) {
	w.small(len(v), 1, maxCount, api.ErrLong)
	for _, x := range v {
		w.put(uint64(x), 4)
	}
}

// message: without its sender, whom the packet tells.
func (w *writer) message(m api.Message) {
	w.put(uint64(m.Seq), 4)
	w.put(m.Stamp, 8)
	w.small(m.Service, 1, api.Safe, api.ErrRange)
	w.vector(m.Deps)
	w.small(len(m.Payload), 2, api.MaxPayload, api.ErrLong)
	w.WriteString(m.Payload)
}

func (w *writer) exchange(x api.Exchange) {
	w.process(x.Who)
	w.conf(x.Old)
	w.vector(x.Count)
	w.key(x.Last)
}

// only: the one of l, whose number isn't written, since there is never another.
func (w *writer) only(l []api.Exchange) {
	if len(l) != 1 {
		panic(api.ErrRange)
	}
	w.exchange(l[0])
}

func (w *writer) exchanges(l []api.Exchange) {
	w.small(len(l), 1, maxCount, api.ErrLong)
	for _, x := range l {
		w.exchange(x)
	}
}
