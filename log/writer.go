package log

import (
	"strings"

	"consort/api"
	"consort/num"
	"consort/vote"
)

// writer puts the fields of a stable record, or of an item, one behind the other. What may not be written is given up by a panic of its error.
type writer struct {
	strings.Builder
}

func (w *writer) stable(s Stable) {
	w.put(stableKind, 1)
	w.put(s.Epoch, 8)
	w.put(uint64(s.Inc), 4)
	w.record(s.Record)
}

// item: its kind, and the fields that this names, in their order.
func (w *writer) item(x Item) {
	w.small(x.Kind, 1, ItApp, ItChunk, api.ErrKind)
	switch x.Kind {
	case ItApp:
		w.WriteString(x.Data)
	case ItState:
		w.put(uint64(x.Inc), 4)
		w.put(x.Holds, 8)
		w.flags(x.Has, x.Direct)
		w.record(x.Rec)
	case ItAttempt:
		w.view(x.View)
	case ItChunk:
		w.put(x.Number, 8)
		w.small(x.Index, 2, 0, maxShort, api.ErrRange)
		w.small(x.Total, 2, 0, maxShort, api.ErrRange)
		w.WriteString(x.Data)
	}
}

func (w *writer) put(v uint64, n int) { w.Write(num.Put(nil, v, n)) }

// small: v in n bytes, which is least to most.
func (w *writer) small(v, n, least, most int, e api.Errno) {
	w.put(uint64(within(v, least, most, e)), n)
}

func (w *writer) flags(has, direct bool) {
	var f uint64
	if has {
		f |= flagHas
	}
	if direct {
		f |= flagDirect
	}
	w.put(f, 1)
}

func (w *writer) view(v api.View) {
	w.put(v.Number, 8)
	w.put(v.Conf.Epoch, 8)
	w.small(v.Conf.Rep, 1, 0, api.MaxProcs-1, api.ErrRange)
	w.put(v.Members, 8)
}

func (w *writer) record(r vote.Record) {
	w.view(r.Last)
	w.small(len(r.Pending), 1, 0, api.MaxPending, api.ErrLong)
	for _, v := range r.Pending {
		w.view(v)
	}
}
