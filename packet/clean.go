package packet

import (
	"slices"
	"strings"

	"consort/api"
)

// Clean: p without the fields that its kind doesn't name.
func Clean(p api.Packet) api.Packet {
	q := api.Packet{Kind: p.Kind, From: p.From, To: p.To}
	if p.Kind < api.PkData || p.Kind > api.PkInstall {
		return q
	}
	q.Conf = p.Conf
	switch p.Kind {
	case api.PkData:
		q.M = message(p.M, p.From)
	case api.PkAck:
		q.Stamp, q.Sent, q.Got, q.Horizon = p.Stamp, p.Sent, slices.Clone(p.Got), p.Horizon
	case api.PkNack, api.PkAsk:
		q.Whom, q.Seq = p.Whom, p.Seq
	case api.PkBeat:
		q.Prom, q.Epoch, q.Members = p.Prom, p.Epoch, p.Members
	case api.PkGather:
		q.Members = p.Members
	case api.PkExchange:
		q.X = exchanges(p.X)
	case api.PkCommit:
		q.Members, q.X = p.Members, exchanges(p.X)
	case api.PkRecover:
		q.Whom, q.M = p.Whom, message(p.M, p.Whom)
	}
	return q
}

// message: m in new memory, sent by from, as whoever reads it takes it to be.
func message(m api.Message, from int) api.Message {
	m.From, m.Deps, m.Payload = from, slices.Clone(m.Deps), strings.Clone(m.Payload)
	return m
}

// exchanges: l in new memory.
func exchanges(l []api.Exchange) []api.Exchange {
	out := slices.Clone(l)
	for i := range out {
		out[i].Count = slices.Clone(out[i].Count)
	}
	return out
}
