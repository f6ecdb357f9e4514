package log

import (
	"consort/api"
	"consort/num"
	"consort/vote"
)

// reader goes through the bytes of a stable record, or of an item. What may not be read is given up by a panic of its error, as what lacks is by the reader that is embedded.
type reader struct {
	*num.Reader
}

// kind: the first byte, which is 1 to most.
func (r reader) kind(most int) int { return within(int(r.Num(1)), 1, most, api.ErrKind) }

// stable: the record whose kind is gone past.
func (r reader) stable() Stable {
	return Stable{Epoch: r.Num(8), Inc: r.four(), Record: r.record()}
}

// item: the one of that kind, which is gone past.
func (r reader) item(kind int) Item {
	x := Item{Kind: kind}
	switch kind {
	case ItApp:
		x.Data = r.rest()
	case ItState:
		x.Inc, x.Holds = r.four(), r.Num(8)
		x.Has, x.Direct = r.flags()
		x.Rec = r.record()
	case ItAttempt:
		x.View = r.view()
	case ItChunk:
		x.Number, x.Index, x.Total, x.Data = r.Num(8), r.two(), r.two(), r.rest()
	}
	return x
}

func (r reader) two() int { return int(r.Num(2)) }

func (r reader) four() uint32 { return uint32(r.Num(4)) }

// small: a number of one byte, which is 0 to most.
func (r reader) small(most int, e api.Errno) int { return within(int(r.Num(1)), 0, most, e) }

func (r reader) rest() string { return r.Text(r.Left()) }

// flags: Has and Direct.
func (r reader) flags() (bool, bool) {
	f := r.small(flagHas|flagDirect, api.ErrRange)
	return f&flagHas != 0, f&flagDirect != 0
}

func (r reader) conf() api.Conf {
	return api.Conf{Epoch: r.Num(8), Rep: r.small(api.MaxProcs-1, api.ErrRange)}
}

func (r reader) view() api.View {
	return api.View{Number: r.Num(8), Conf: r.conf(), Members: r.Num(8)}
}

func (r reader) record() vote.Record {
	return vote.Record{Last: r.view(), Pending: r.pending()}
}

func (r reader) pending() []api.View {
	var l []api.View
	for range r.small(api.MaxPending, api.ErrLong) {
		l = append(l, r.view())
	}
	return l
}

// end: nothing may be left.
func (r reader) end() { within(r.Left(), 0, 0, api.ErrForm) }
