package log

import (
	"encoding/binary"
	"fmt"
	"math"
	"math/big"
	"math/rand"
	"reflect"
	"strings"
	"testing"
	"unsafe"

	"consort/api"
	"consort/vote"
)

// The menus: what may be, what mayn't, and what is told of it.

// noProcesses: numbers that are none; of some the lowest byte is one.
func noProcesses() []int {
	return []int{-1, 64, -64, 65, 127, 128, 255, 256, 257, 319, -256, -255, 1 << 32, 1<<32 + 5, math.MinInt + 1, math.MinInt, math.MaxInt}
}

// noKinds: numbers that are no item's kind; of some the lowest byte is one.
func noKinds() []int {
	return []int{0, 5, -1, 6, 127, 128, 255, 256, 257, 258, 259, 260, -252, -255, 1 << 32, 1<<32 + 1, math.MinInt + 1, math.MinInt, math.MaxInt}
}

// noShorts: numbers that two bytes don't have; of some the lowest two bytes are those of one that they have.
func noShorts() []int {
	return []int{-1, 65536, 65537, -65535, -65536, 1 << 20, 1 << 32, 1<<32 + 1, math.MinInt + 1, math.MinInt, math.MaxInt}
}

// Of the greater ones the lowest byte is one that may be.
var manyPending = []int{33, 34, 64, 128, 255, 256, 257, 288, 65536, 65537}

// view: one of whose numbers none is zero, and none is another's.
func view(i int) api.View {
	n := uint64(i)
	return api.View{Number: 0x0102030405060700 + n, Conf: api.Conf{Epoch: 0x1112131415161700 + n, Rep: (i + 9) % 64}, Members: 0x2122232425262700 + n}
}

// greatestView: one of the greatest numbers that there are.
func greatestView() api.View {
	return api.View{Number: math.MaxUint64, Conf: api.Conf{Epoch: math.MaxUint64, Rep: 63}, Members: math.MaxUint64}
}

// record: one of n pending views.
func record(n int) vote.Record {
	r := vote.Record{Last: view(n)}
	for i := range n {
		r.Pending = append(r.Pending, view(i+1))
	}
	return r
}

// greatestRecord: one of n pending views, all of the greatest numbers that there are.
func greatestRecord(n int) vote.Record {
	r := vote.Record{Last: greatestView()}
	for range n {
		r.Pending = append(r.Pending, greatestView())
	}
	return r
}

// records: that can be written, of all numbers of pending views.
func records() []vote.Record {
	out := []vote.Record{{}, vote.First(0), vote.First(3), vote.First(64)}
	for n := range 33 {
		out = append(out, record(n), greatestRecord(n), vote.Record{Pending: make([]api.View, n)})
	}
	return out
}

// stables: that can be printed.
func stables() []Stable {
	var out []Stable
	for i, r := range records() {
		out = append(out, Stable{Epoch: 0x3132333435363700 + uint64(i), Inc: 0x41424300 + uint32(i), Record: r})
	}
	return append(out, Stable{}, Stable{Epoch: math.MaxUint64, Inc: math.MaxUint32}, Stable{Epoch: 1}, Stable{Inc: 1})
}

// full: an item of that kind, none of whose fields is zero.
func full(kind int) Item {
	return Item{
		Kind: kind, Data: "hi\x00\xff", Inc: 0x51525354, Holds: 0x6162636465666768, Has: true, Direct: true, Rec: record(3), View: view(77),
		Number: 0x7172737475767778, Index: 0x8182, Total: 0x9192,
	}
}

// named: which of an item's fields a kind names.
func named(kind int) []string {
	return append([]string{"Kind"}, strings.Fields([]string{1: "Data", 2: "Inc Holds Has Direct Rec", 3: "View", 4: "Number Index Total Data"}[kind])...)
}

// tidy: x with all fields zero that its kind doesn't name.
func tidy(x Item) Item {
	var y Item
	from, to := reflect.ValueOf(x), reflect.ValueOf(&y).Elem()
	for _, name := range named(x.Kind) {
		to.FieldByName(name).Set(from.FieldByName(name))
	}
	return y
}

// noise: n bytes that look like chance, the same ones each time.
func noise(n int, seed int64) string {
	b := make([]byte, n)
	rand.New(rand.NewSource(seed)).Read(b)
	return string(b)
}

// items: that can be printed, of all kinds, without fields that these don't name.
func items() []Item {
	var out []Item
	for kind := 1; kind <= 4; kind++ {
		out = append(out, tidy(full(kind)), Item{Kind: kind})
	}
	for i, r := range records() {
		out = append(out, Item{Kind: 2, Inc: uint32(i), Holds: uint64(i) << 50, Has: i%2 == 1, Direct: i/2%2 == 1, Rec: r})
		out = append(out, Item{Kind: 3, View: r.Last})
	}
	for _, n := range []int{0, 1, 2, 255, 256, 257, 1010, 1011, 1022, 1023} {
		out = append(out, Item{Kind: 1, Data: noise(n, 1)})
		if n <= 1011 {
			out = append(out, Item{Kind: 4, Number: uint64(n), Data: noise(n, 2)})
		}
	}
	for _, n := range []int{0, 1, 255, 256, 257, 65534, 65535} {
		out = append(out, Item{Kind: 4, Index: n}, Item{Kind: 4, Total: n}, Item{Kind: 4, Number: math.MaxUint64, Index: n, Total: 65535 - n, Data: "d"})
	}
	return append(out, Item{Kind: 2, Inc: math.MaxUint32, Holds: math.MaxUint64, Has: true, Direct: true, Rec: greatestRecord(32)})
}

// The second working-out: bytes by the library, what is wrong by the chapter's words.

// layout: the values, one behind the other.
func layout(l ...any) string {
	var out []byte
	for _, v := range l {
		switch x := v.(type) {
		case string:
			out = append(out, x...)
		case api.View:
			out = append(out, layout(x.Number, x.Conf.Epoch, byte(x.Conf.Rep), x.Members)...)
		case vote.Record:
			out = append(out, layout(x.Last, byte(len(x.Pending)))...)
			for _, p := range x.Pending {
				out = append(out, layout(p)...)
			}
		default:
			out, _ = binary.Append(out, binary.BigEndian, v)
		}
	}
	return string(out)
}

// stableBytes: those of s, which can be printed.
func stableBytes(s Stable) string { return layout(byte(1), s.Epoch, s.Inc, s.Record) }

// itemBytes: those of x, which can be printed.
func itemBytes(x Item) string {
	switch x.Kind {
	case 1:
		return layout(byte(1), x.Data)
	case 2:
		flags := map[[2]bool]byte{{true, false}: 1, {false, true}: 2, {true, true}: 3}
		return layout(byte(2), x.Inc, x.Holds, flags[[2]bool{x.Has, x.Direct}], x.Rec)
	case 3:
		return layout(byte(3), x.View)
	}
	return layout(byte(4), x.Number, uint16(x.Index), uint16(x.Total), x.Data)
}

// wrongRecord: what is wrong first with r, from the front.
func wrongRecord(r vote.Record) api.Errno {
	none := func(v api.View) bool { return v.Conf.Rep < 0 || v.Conf.Rep > 63 }
	switch {
	case none(r.Last):
		return 1
	case len(r.Pending) > 32:
		return 3
	}
	for _, v := range r.Pending {
		if none(v) {
			return 1
		}
	}
	return 0
}

// wrongItem: what is wrong first with x.
func wrongItem(x Item) api.Errno {
	short := func(n int) bool { return n >= 0 && n <= 65535 }
	switch {
	case x.Kind < 1 || x.Kind > 4:
		return 10
	case x.Kind == 2:
		return wrongRecord(x.Rec)
	case x.Kind == 3:
		return wrongRecord(vote.Record{Last: x.View})
	case x.Kind == 4 && !(short(x.Index) && short(x.Total)):
		return 1
	case len(itemBytes(x)) > 1024:
		return 3
	}
	return 0
}

// second goes through bytes; e is what was wrong first.
type second struct {
	s string
	e api.Errno
}

func (r *second) num(n int) uint64 {
	if r.e == 0 && len(r.s) < n {
		r.e = 2
	}
	if r.e != 0 {
		return 0
	}
	v := new(big.Int).SetBytes([]byte(r.s[:n])).Uint64()
	r.s = r.s[n:]
	return v
}

// upTo: a byte that is 0 to most.
func (r *second) upTo(most uint64, e api.Errno) int {
	v := r.num(1)
	if r.e == 0 && v > most {
		r.e = e
	}
	return int(v)
}

func (r *second) view() api.View {
	var v api.View
	v.Number = r.num(8)
	v.Conf.Epoch = r.num(8)
	v.Conf.Rep = r.upTo(63, 1)
	v.Members = r.num(8)
	return v
}

func (r *second) record() vote.Record {
	out := vote.Record{Last: r.view()}
	n := r.upTo(32, 3)
	for i := 0; i < n && r.e == 0; i++ {
		out.Pending = append(out.Pending, r.view())
	}
	return out
}

// end: what was wrong; bytes that are left are, too.
func (r *second) end() api.Errno {
	if r.e == 0 && r.s != "" {
		r.e = 4
	}
	return r.e
}

// readStable: what Parse is to answer.
func readStable(s string) (Stable, api.Errno) {
	if s == "" {
		return Stable{}, 2
	}
	if s[0] != 1 {
		return Stable{}, 10
	}
	r := &second{s: s[1:]}
	var x Stable
	x.Epoch = r.num(8)
	x.Inc = uint32(r.num(4))
	x.Record = r.record()
	if e := r.end(); e != 0 {
		return Stable{}, e
	}
	return x, 0
}

// readItem: what ParseItem is to answer.
func readItem(s string) (Item, api.Errno) {
	switch {
	case s == "":
		return Item{}, 2
	case s[0] < 1 || s[0] > 4:
		return Item{}, 10
	case len(s) > 1024:
		return Item{}, 3
	}
	r := &second{s: s[1:]}
	x := Item{Kind: int(s[0])}
	switch x.Kind {
	case 1:
		x.Data, r.s = r.s, ""
	case 2:
		x.Inc = uint32(r.num(4))
		x.Holds = r.num(8)
		flags := r.upTo(3, 1)
		x.Has, x.Direct = flags%2 == 1, flags/2 == 1
		x.Rec = r.record()
	case 3:
		x.View = r.view()
	case 4:
		x.Number = r.num(8)
		x.Index = int(r.num(2))
		x.Total = int(r.num(2))
		x.Data, r.s = r.s, ""
	}
	if e := r.end(); e != 0 {
		return Item{}, e
	}
	return x, 0
}

// What is held against what.

// told: x in words, in which an empty list and none are the same.
func told(x any) string { return fmt.Sprintf("%+v", x) }

// prints: whether Print answers those bytes, or that error and none, of s.
func prints(t *testing.T, s Stable, bytes string, want api.Errno) {
	t.Helper()
	if b, e := Print(s); b != bytes || e != want {
		t.Errorf("Print(%.300q) = %.90x, %d, want %.90x, %d", told(s), b, e, bytes, want)
	}
}

// printsItem: likewise of an item.
func printsItem(t *testing.T, x Item, bytes string, want api.Errno) {
	t.Helper()
	if b, e := PrintItem(x); b != bytes || e != want {
		t.Errorf("PrintItem(%.300q) = %.90x, %d, want %.90x, %d", told(x), b, e, bytes, want)
	}
}

// parses: whether Parse answers that record, or that error and none, of s.
func parses(t *testing.T, s string, want Stable, we api.Errno) {
	t.Helper()
	if x, e := Parse(s); told(x) != told(want) || e != we || e != 0 && !reflect.DeepEqual(x, Stable{}) {
		t.Errorf("Parse(%.90x, %d bytes) = %.300q, %d, want %.300q, %d", s, len(s), told(x), e, told(want), we)
	}
}

// parsesItem: likewise of an item.
func parsesItem(t *testing.T, s string, want Item, we api.Errno) {
	t.Helper()
	if x, e := ParseItem(s); told(x) != told(want) || e != we || e != 0 && !reflect.DeepEqual(x, Item{}) {
		t.Errorf("ParseItem(%.90x, %d bytes) = %.300q, %d, want %.300q, %d", s, len(s), told(x), e, told(want), we)
	}
}

// asTold: whether Parse answers of s what the chapter's words come to; and if it answers a record, whether that is printed to s.
func asTold(t *testing.T, s string) {
	t.Helper()
	want, e := readStable(s)
	parses(t, s, want, e)
	if x, e := Parse(s); e == api.OK {
		prints(t, x, s, api.OK)
	}
}

// itemAsTold: likewise of ParseItem.
func itemAsTold(t *testing.T, s string) {
	t.Helper()
	want, e := readItem(s)
	parsesItem(t, s, want, e)
	if x, e := ParseItem(s); e == api.OK {
		printsItem(t, x, s, api.OK)
	}
}

const (
	viewBytes  = "\x00\x00\x00\x00\x00\x00\x00\x03" + "\x00\x00\x00\x00\x00\x00\x00\x04\x05" + "\x00\x00\x00\x00\x00\x00\x00\x06"
	otherBytes = "\x11\x12\x13\x14\x15\x16\x17\x18" + "\x21\x22\x23\x24\x25\x26\x27\x28\x3f" + "\x31\x32\x33\x34\x35\x36\x37\x38"
)

var (
	aView     = api.View{Number: 3, Conf: api.Conf{Epoch: 4, Rep: 5}, Members: 6}
	otherView = api.View{Number: 0x1112131415161718, Conf: api.Conf{Epoch: 0x2122232425262728, Rep: 63}, Members: 0x3132333435363738}
)

// P19.1: stable records.

func TestStablesOfKnownBytes(t *testing.T) {
	const head = "\x01\x41\x42\x43\x44\x45\x46\x47\x48\x51\x52\x53\x54"
	for _, x := range []struct {
		s    Stable
		want string
	}{
		{Stable{}, "\x01" + strings.Repeat("\x00", 8+4+25+1)},
		{Stable{Epoch: 9, Inc: 2, Record: vote.Record{Last: aView}}, "\x01\x00\x00\x00\x00\x00\x00\x00\x09\x00\x00\x00\x02" + viewBytes + "\x00"},
		{Stable{0x4142434445464748, 0x51525354, vote.Record{Last: otherView, Pending: []api.View{aView}}}, head + otherBytes + "\x01" + viewBytes},
		{Stable{0x4142434445464748, 0x51525354, vote.Record{Last: aView, Pending: []api.View{otherView, aView, otherView}}}, head + viewBytes + "\x03" + otherBytes + viewBytes + otherBytes},
		{Stable{Record: vote.First(3)}, "\x01" + strings.Repeat("\x00", 8+4+24) + "\x07\x00"},
	} {
		prints(t, x.s, x.want, api.OK)
		parses(t, x.want, x.s, api.OK)
	}
}

func TestStablesPromoteTheirRecord(t *testing.T) {
	var s Stable
	s.Last, s.Pending = aView, []api.View{otherView}
	if s.Record.Last != aView || len(s.Record.Pending) != 1 {
		t.Error(told(s))
	}
	x, _ := Parse(stableBytes(s))
	if x.Last != aView || len(x.Pending) != 1 || x.Pending[0] != otherView {
		t.Error(told(x))
	}
}

func TestPrintOfMany(t *testing.T) {
	for _, s := range stables() {
		prints(t, s, stableBytes(s), api.OK)
	}
}

// reps: pointers to all Reps of r, from the front.
func reps(r *vote.Record) []*int {
	out := []*int{&r.Last.Conf.Rep}
	for i := range r.Pending {
		out = append(out, &r.Pending[i].Conf.Rep)
	}
	return out
}

// eachRep: calls right with records of which one Rep is each process, wrong with ones of which it is none.
func eachRep(right, wrong func(r vote.Record)) {
	for _, n := range []int{0, 1, 2, 31, 32} {
		r := record(n)
		for _, at := range reps(&r) {
			kept := *at
			for *at = range 64 {
				right(r)
			}
			for _, *at = range noProcesses() {
				wrong(r)
			}
			*at = kept
		}
	}
}

func TestPrintOfEachRep(t *testing.T) {
	eachRep(func(r vote.Record) {
		s := Stable{Record: r}
		prints(t, s, stableBytes(s), api.OK)
	}, func(r vote.Record) {
		prints(t, Stable{Record: r}, "", api.ErrRange)
	})
}

func TestPrintOfTooManyPending(t *testing.T) {
	for _, n := range manyPending {
		prints(t, Stable{Record: record(n)}, "", api.ErrLong)
		prints(t, Stable{Epoch: 1, Inc: 2, Record: vote.Record{Last: aView, Pending: make([]api.View, n)}}, "", api.ErrLong)
	}
	for _, n := range []int{0, 1, 31, 32} {
		s := Stable{Record: record(n)}
		prints(t, s, stableBytes(s), api.OK)
	}
}

func TestPrintAnswersTheFirstOfTwoErrors(t *testing.T) {
	for _, n := range manyPending {
		s := Stable{Record: record(n)}
		for _, i := range []int{0, 1, 31, 32, n - 1} {
			s.Pending[i].Conf.Rep = 64 // behind how many they are
			prints(t, s, "", api.ErrLong)
		}
		for _, p := range noProcesses() {
			s.Last.Conf.Rep = p // ahead of it
			prints(t, s, "", api.ErrRange)
		}
	}
}

func TestParseOfMany(t *testing.T) {
	for _, s := range stables() {
		parses(t, stableBytes(s), s, api.OK)
	}
}

func TestParseOfEachFirstByte(t *testing.T) {
	parses(t, "", Stable{}, api.ErrShort)
	rest := stableBytes(Stable{Record: record(2)})[1:]
	for b := range 256 {
		for _, more := range []string{"", "x", rest, rest + "x", rest[1:]} {
			s := string([]byte{byte(b)}) + more
			asTold(t, s)
			if _, e := Parse(s); b != 1 && e != api.ErrKind {
				t.Errorf("%d: %d", b, e)
			}
		}
	}
}

func TestParseOfWhatIsCutOff(t *testing.T) {
	for _, s := range []Stable{{}, {Record: record(1)}, {Epoch: 7, Inc: 8, Record: record(2)}, {Record: record(32)}, {Record: greatestRecord(3)}} {
		b := stableBytes(s)
		for i := range len(b) {
			parses(t, b[:i], Stable{}, api.ErrShort)
		}
		for _, more := range []string{"x", "\x00", viewBytes, strings.Repeat("\x00", 9000)} {
			parses(t, b+more, Stable{}, api.ErrForm)
		}
	}
}

// putAt: s with the byte b at that place.
func putAt(s string, at int, b byte) string { return s[:at] + string([]byte{b}) + s[at+1:] }

// Where the bytes of a stable record have the Rep of its last view, and how many are pending.
const (
	repAt   = 1 + 8 + 4 + 16
	countAt = 1 + 8 + 4 + 25
)

func TestParseOfEachRep(t *testing.T) {
	for _, n := range []int{0, 1, 2, 32} {
		b := stableBytes(Stable{Record: record(n)})
		ats := []int{repAt}
		for i := range n {
			ats = append(ats, countAt+1+25*i+16)
		}
		for _, at := range ats {
			for v := range 256 {
				s := putAt(b, at, byte(v))
				if v < 64 {
					asTold(t, s)
					continue
				}
				parses(t, s, Stable{}, api.ErrRange)
				parses(t, s[:at+1], Stable{}, api.ErrRange) // what lacks behind it comes later
				parses(t, s+"x", Stable{}, api.ErrRange)
				parses(t, s[:at], Stable{}, api.ErrShort)
			}
		}
	}
}

func TestParseOfEachCount(t *testing.T) {
	head := stableBytes(Stable{Record: vote.Record{Last: aView}})[:countAt]
	for n := range 256 {
		b := head + string([]byte{byte(n)})
		whole := b + strings.Repeat(viewBytes, n)
		if n > 32 {
			parses(t, whole, Stable{}, api.ErrLong)
			parses(t, b, Stable{}, api.ErrLong) // the count stands ahead of what it counts
			parses(t, b+strings.Repeat("\xff", 25*n), Stable{}, api.ErrLong)
			parses(t, b+strings.Repeat("\xff", 25), Stable{}, api.ErrLong)
			parses(t, putAt(whole, repAt, 64), Stable{}, api.ErrRange) // and behind the last view
			continue
		}
		want := Stable{Record: vote.Record{Last: aView}}
		for range n {
			want.Pending = append(want.Pending, aView)
		}
		parses(t, whole, want, api.OK)
		parses(t, whole+"x", Stable{}, api.ErrForm)
		parses(t, whole+viewBytes, Stable{}, api.ErrForm)
		parses(t, whole[:len(whole)-1], Stable{}, api.ErrShort)
	}
}

func TestParseOfEachByteTurned(t *testing.T) {
	for _, s := range []Stable{{}, {Epoch: 5, Inc: 6, Record: record(0)}, {Record: record(2)}, {Record: greatestRecord(1)}} {
		b := stableBytes(s)
		for at := range len(b) {
			for v := range 256 {
				asTold(t, putAt(b, at, byte(v)))
			}
		}
	}
}

// P19.2: items.

func TestItemsOfKnownBytes(t *testing.T) {
	const state = "\x02\x00\x00\x00\x01\x00\x00\x00\x00\x00\x00\x00\x02"
	for _, x := range []struct {
		x    Item
		want string
	}{
		{Item{Kind: ItApp, Data: "hi"}, "\x01\x68\x69"},
		{Item{Kind: ItApp}, "\x01"},
		{Item{Kind: ItApp, Data: "\x00\xff\x01"}, "\x01\x00\xff\x01"},
		{Item{Kind: ItState}, "\x02" + strings.Repeat("\x00", 4+8+1+25+1)},
		{Item{Kind: ItState, Inc: 1, Holds: 2, Rec: vote.Record{Last: aView}}, state + "\x00" + viewBytes + "\x00"},
		{Item{Kind: ItState, Inc: 1, Holds: 2, Has: true, Rec: vote.Record{Last: aView, Pending: []api.View{otherView}}}, state + "\x01" + viewBytes + "\x01" + otherBytes},
		{Item{Kind: ItState, Inc: 1, Holds: 2, Direct: true, Rec: vote.Record{Last: otherView, Pending: []api.View{aView, otherView}}}, state + "\x02" + otherBytes + "\x02" + viewBytes + otherBytes},
		{Item{Kind: ItState, Inc: 0x51525354, Holds: 0x6162636465666768, Has: true, Direct: true, Rec: vote.First(3)}, "\x02\x51\x52\x53\x54\x61\x62\x63\x64\x65\x66\x67\x68\x03" + strings.Repeat("\x00", 24) + "\x07\x00"},
		{Item{Kind: ItAttempt}, "\x03" + strings.Repeat("\x00", 25)},
		{Item{Kind: ItAttempt, View: aView}, "\x03" + viewBytes},
		{Item{Kind: ItAttempt, View: otherView}, "\x03" + otherBytes},
		{Item{Kind: ItChunk}, "\x04" + strings.Repeat("\x00", 12)},
		{Item{Kind: ItChunk, Number: 1, Index: 2, Total: 3, Data: "d"}, "\x04\x00\x00\x00\x00\x00\x00\x00\x01\x00\x02\x00\x03d"},
		{Item{Kind: ItChunk, Number: 0x7172737475767778, Index: 0x8182, Total: 0x9192, Data: "hi\x00\xff"}, "\x04\x71\x72\x73\x74\x75\x76\x77\x78\x81\x82\x91\x92hi\x00\xff"},
	} {
		printsItem(t, x.x, x.want, api.OK)
		parsesItem(t, x.want, x.x, api.OK)
	}
}

func TestPrintItemOfMany(t *testing.T) {
	for _, x := range items() {
		printsItem(t, x, itemBytes(x), api.OK)
	}
}

func TestPrintItemOfWrongKinds(t *testing.T) {
	for _, kind := range noKinds() {
		printsItem(t, Item{Kind: kind}, "", api.ErrKind)
		printsItem(t, full(kind), "", api.ErrKind)
		printsItem(t, ugly(kind), "", api.ErrKind)
	}
}

// ugly: an item of that kind, all of whose fields are wrong, as far as they can be.
func ugly(kind int) Item {
	x := full(kind)
	x.Data, x.Rec, x.Index, x.Total = strings.Repeat("d", 1025), record(33), -1, 65536
	x.Rec.Last.Conf.Rep, x.View.Conf.Rep = 64, -1
	return x
}

func TestPrintItemOfWhatItsKindDoesntName(t *testing.T) {
	for _, x := range items() {
		y := ugly(x.Kind)
		from, to := reflect.ValueOf(x), reflect.ValueOf(&y).Elem()
		for _, name := range named(x.Kind) {
			to.FieldByName(name).Set(from.FieldByName(name))
		}
		printsItem(t, y, itemBytes(x), api.OK)
	}
}

func TestPrintItemOfEachRep(t *testing.T) {
	eachRep(func(r vote.Record) {
		x := Item{Kind: ItState, Rec: r}
		printsItem(t, x, itemBytes(x), api.OK)
	}, func(r vote.Record) {
		printsItem(t, Item{Kind: ItState, Rec: r}, "", api.ErrRange)
	})
	x := Item{Kind: ItAttempt, View: otherView}
	for x.View.Conf.Rep = range 64 {
		printsItem(t, x, itemBytes(x), api.OK)
	}
	for _, x.View.Conf.Rep = range noProcesses() {
		printsItem(t, x, "", api.ErrRange)
	}
}

func TestPrintItemOfTooManyPending(t *testing.T) {
	for _, n := range manyPending {
		x := Item{Kind: ItState, Rec: record(n)}
		printsItem(t, x, "", api.ErrLong)
		x.Rec.Pending[0].Conf.Rep = 64 // behind how many they are
		printsItem(t, x, "", api.ErrLong)
		for _, x.Rec.Last.Conf.Rep = range noProcesses() { // ahead of it
			printsItem(t, x, "", api.ErrRange)
		}
	}
}

func TestPrintItemOfEachIndexAndTotal(t *testing.T) {
	for _, bad := range noShorts() {
		for _, good := range []int{0, 1, 2, 65535} {
			for _, data := range []string{"", "d", strings.Repeat("d", 1011), strings.Repeat("d", 1012), strings.Repeat("d", 1<<20)} {
				printsItem(t, Item{Kind: ItChunk, Index: bad, Total: good, Data: data}, "", api.ErrRange)
				printsItem(t, Item{Kind: ItChunk, Index: good, Total: bad, Data: data}, "", api.ErrRange)
				printsItem(t, Item{Kind: ItChunk, Index: bad, Total: bad, Data: data}, "", api.ErrRange)
			}
		}
	}
	for i := range 65536 {
		x := Item{Kind: ItChunk, Index: i, Total: 65535 - i}
		if s, e := PrintItem(x); s != itemBytes(x) || e != api.OK {
			t.Fatalf("%d: %x %d", i, s, e)
		}
	}
}

func TestPrintItemOfDataUpToItsBound(t *testing.T) {
	for n := range 1100 {
		data := noise(n, int64(n))
		for kind, most := range map[int]int{ItApp: 1023, ItChunk: 1011} {
			x := Item{Kind: kind, Number: 9, Index: 8, Total: 7, Data: data}
			if n > most {
				printsItem(t, x, "", api.ErrLong)
			} else {
				printsItem(t, x, itemBytes(x), api.OK)
			}
		}
	}
	for _, n := range []int{2047, 2048, 65535, 65536, 66559, 1 << 20} { // of some the lowest bytes are those of a length that may be
		printsItem(t, Item{Kind: ItApp, Data: strings.Repeat("d", n)}, "", api.ErrLong)
		printsItem(t, Item{Kind: ItChunk, Data: strings.Repeat("d", n)}, "", api.ErrLong)
	}
}

func TestAStateFitsWhateverItsRecordIs(t *testing.T) {
	for n := range 33 {
		for _, r := range []vote.Record{record(n), greatestRecord(n)} {
			x := Item{Kind: ItState, Inc: math.MaxUint32, Holds: math.MaxUint64, Has: true, Direct: true, Rec: r}
			s, e := PrintItem(x)
			if e != api.OK || len(s) != 40+25*n || len(s) > api.MaxPayload {
				t.Errorf("%d: %d bytes, %d", n, len(s), e)
			}
			parsesItem(t, s, x, api.OK)
		}
	}
}

func TestParseItemOfMany(t *testing.T) {
	for _, x := range items() {
		parsesItem(t, itemBytes(x), x, api.OK)
	}
}

func TestParseItemIsZeroInAllItsKindDoesntName(t *testing.T) {
	for kind := 1; kind <= 4; kind++ {
		x, e := ParseItem(itemBytes(full(kind)))
		if want := tidy(full(kind)); !reflect.DeepEqual(x, want) || e != api.OK {
			t.Errorf("%d: %s, %d", kind, told(x), e)
		}
	}
}

func TestParseItemOfEachFirstByte(t *testing.T) {
	parsesItem(t, "", Item{}, api.ErrShort)
	more := []string{"", "x", strings.Repeat("x", 1023), strings.Repeat("x", 1024), strings.Repeat("x", 5000)}
	for kind := 1; kind <= 4; kind++ {
		more = append(more, itemBytes(full(kind))[1:])
	}
	for b := range 256 {
		for _, m := range more {
			s := string([]byte{byte(b)}) + m
			itemAsTold(t, s)
			if _, e := ParseItem(s); (b < 1 || b > 4) && e != api.ErrKind {
				t.Errorf("%d: %d", b, e)
			}
		}
	}
}

func TestParseItemOfMoreThanMayBe(t *testing.T) {
	for kind := 1; kind <= 4; kind++ {
		for _, x := range []Item{full(kind), {Kind: kind}} {
			b := itemBytes(x)
			for _, n := range []int{1025, 1026, 2048, 65536, 1 << 20} {
				parsesItem(t, b+strings.Repeat("x", n-len(b)), Item{}, api.ErrLong)
			}
		}
		k := string([]byte{byte(kind)})
		parsesItem(t, k+strings.Repeat("\xff", 1024), Item{}, api.ErrLong) // whatever else is wrong, too
		parsesItem(t, k+strings.Repeat("\x00", 1024), Item{}, api.ErrLong)
	}
	for _, b := range []byte{0, 5, 6, 128, 255} {
		parsesItem(t, string([]byte{b})+strings.Repeat("\x00", 1024), Item{}, api.ErrKind)
	}
	parsesItem(t, "\x01"+strings.Repeat("d", 1023), Item{Kind: ItApp, Data: strings.Repeat("d", 1023)}, api.OK)
	parsesItem(t, "\x04"+strings.Repeat("\x00", 12)+strings.Repeat("d", 1011), Item{Kind: ItChunk, Data: strings.Repeat("d", 1011)}, api.OK)
	parsesItem(t, "\x03"+viewBytes+strings.Repeat("d", 998), Item{}, api.ErrForm)
}

func TestParseItemOfWhatIsCutOff(t *testing.T) {
	for _, x := range []Item{full(2), {Kind: 2}, {Kind: 2, Rec: record(32)}, full(3), {Kind: 3}} {
		b := itemBytes(x)
		for i := range len(b) {
			parsesItem(t, b[:i], Item{}, api.ErrShort)
		}
		for _, more := range []string{"x", "\x00", viewBytes} {
			parsesItem(t, b+more, Item{}, api.ErrForm)
		}
	}
	for _, x := range []Item{full(1), full(4), {Kind: 1, Data: noise(1023, 3)}, {Kind: 4, Data: noise(1011, 4)}} {
		b := itemBytes(x)
		least := map[int]int{1: 1, 4: 13}[x.Kind] // what stands behind is Data, however much it is
		for i := range len(b) {
			if i < least {
				parsesItem(t, b[:i], Item{}, api.ErrShort)
				continue
			}
			y := tidy(x)
			y.Data = b[least:i]
			parsesItem(t, b[:i], y, api.OK)
		}
		y := tidy(x)
		y.Data += "x"
		if len(b) < 1024 {
			parsesItem(t, b+"x", y, api.OK)
		} else {
			parsesItem(t, b+"x", Item{}, api.ErrLong)
		}
	}
}

func TestParseItemOfEachFlag(t *testing.T) {
	b := itemBytes(full(2))
	const at = 1 + 4 + 8
	for v := range 256 {
		s := putAt(b, at, byte(v))
		if v > 3 {
			parsesItem(t, s, Item{}, api.ErrRange)
			parsesItem(t, s[:at+1], Item{}, api.ErrRange)
			parsesItem(t, putAt(s, at+1+25, 33), Item{}, api.ErrRange) // ahead of how many are pending
			continue
		}
		want := tidy(full(2))
		want.Has, want.Direct = v == 1 || v == 3, v == 2 || v == 3
		parsesItem(t, s, want, api.OK)
	}
}

func TestParseItemOfEachCount(t *testing.T) {
	head := itemBytes(Item{Kind: 2, Rec: vote.Record{Last: aView}})
	head = head[:len(head)-1]
	for n := range 256 {
		b := head + string([]byte{byte(n)})
		itemAsTold(t, b)
		itemAsTold(t, b+strings.Repeat(viewBytes, n))
		itemAsTold(t, b+strings.Repeat(viewBytes, min(n, 33)))
		itemAsTold(t, b+strings.Repeat("\xff", 25))
		if n > 32 {
			parsesItem(t, b, Item{}, api.ErrLong)
			parsesItem(t, b+strings.Repeat("\xff", 25), Item{}, api.ErrLong)
			parsesItem(t, putAt(b, 14+16, 64), Item{}, api.ErrRange)
		}
	}
}

func TestParseItemOfEachByteTurned(t *testing.T) {
	for _, x := range []Item{full(1), full(2), full(3), full(4), {Kind: 1}, {Kind: 2}, {Kind: 3}, {Kind: 4}} {
		b := itemBytes(x)
		for at := range len(b) {
			for v := range 256 {
				itemAsTold(t, putAt(b, at, byte(v)))
			}
		}
	}
}

// P19.3: there and back.

func TestWhatWasPrintedIsParsedAsItWas(t *testing.T) {
	for _, s := range stables() {
		b, e := Print(s)
		if e != api.OK {
			t.Errorf("%.300q: %d", told(s), e)
		}
		parses(t, b, s, api.OK)
	}
	for _, x := range items() {
		b, e := PrintItem(x)
		if e != api.OK {
			t.Errorf("%.300q: %d", told(x), e)
		}
		parsesItem(t, b, x, api.OK)
	}
	for kind := 1; kind <= 4; kind++ { // but for what its kind doesn't name
		b, _ := PrintItem(full(kind))
		parsesItem(t, b, tidy(full(kind)), api.OK)
	}
}

func TestAllShortBytes(t *testing.T) {
	for a := range 256 {
		for b := range 256 {
			s := string([]byte{byte(a), byte(b)})
			asTold(t, s)
			itemAsTold(t, s)
		}
	}
}

// chance: what looks like chance, the same each time.
type chance struct{ *rand.Rand }

// rep: mostly a process.
func (c chance) rep() int {
	if c.Intn(40) == 0 {
		return noProcesses()[c.Intn(17)]
	}
	return c.Intn(64)
}

func (c chance) view() api.View {
	return api.View{Number: c.Uint64(), Conf: api.Conf{Epoch: c.Uint64(), Rep: c.rep()}, Members: c.Uint64()}
}

func (c chance) record() vote.Record {
	n := c.Intn(5)
	if c.Intn(6) == 0 {
		n = 30 + c.Intn(5)
	}
	r := vote.Record{Last: c.view()}
	for range n {
		r.Pending = append(r.Pending, c.view())
	}
	return r
}

func (c chance) short() int {
	if c.Intn(10) == 0 {
		return noShorts()[c.Intn(11)]
	}
	return c.Intn(65536)
}

func (c chance) item() Item {
	n := c.Intn(20)
	if c.Intn(4) == 0 {
		n = 1005 + c.Intn(25)
	}
	return Item{
		Kind: c.Intn(6), Data: noise(n, c.Int63()), Inc: c.Uint32(), Holds: c.Uint64(), Has: c.Intn(2) == 0, Direct: c.Intn(2) == 0,
		Rec: c.record(), View: c.view(), Number: c.Uint64(), Index: c.short(), Total: c.short(),
	}
}

// spoilt: s, often with a byte turned, cut off somewhere, or with some left over.
func (c chance) spoilt(s string) string {
	for c.Intn(2) == 0 && s != "" {
		switch at := c.Intn(len(s)); c.Intn(4) {
		case 0:
			s = s[:at]
		case 1:
			s += noise(1+c.Intn(40), c.Int63())
		case 2:
			s = s[:at] + noise(c.Intn(4), c.Int63()) + s[at:]
		default:
			s = putAt(s, at, byte(c.Intn(256)))
		}
	}
	return s
}

func TestStablesThatLookLikeChance(t *testing.T) {
	c := chance{rand.New(rand.NewSource(191))}
	for range 15000 {
		s := Stable{Epoch: c.Uint64(), Inc: c.Uint32(), Record: c.record()}
		want := wrongRecord(s.Record)
		bytes := stableBytes(s)
		if want != 0 {
			prints(t, s, "", want)
		} else {
			prints(t, s, bytes, 0)
		}
		asTold(t, bytes)
		asTold(t, c.spoilt(bytes))
	}
}

func TestItemsThatLookLikeChance(t *testing.T) {
	c := chance{rand.New(rand.NewSource(192))}
	for range 30000 {
		x := c.item()
		want := wrongItem(x)
		bytes := itemBytes(x)
		if want != 0 {
			printsItem(t, x, "", want)
		} else {
			printsItem(t, x, bytes, 0)
			parsesItem(t, bytes, tidy(x), 0)
		}
		itemAsTold(t, bytes)
		itemAsTold(t, c.spoilt(bytes))
		asTold(t, c.spoilt(bytes))
	}
}

// The rules that hold everywhere: new memory, nothing changed, nothing kept, no panic but of a mistake.

// scribble: writes on all of l, and into its spare room.
func scribble(l []api.View) {
	l = l[:cap(l)]
	for i := range l {
		l[i] = api.View{Number: 0xEEEE, Conf: api.Conf{Rep: 99}}
	}
}

// roomy: n views, with spare room behind them, and all that it is of.
func roomy(n int) (l, room []api.View) {
	for i := range n + 5 {
		room = append(room, view(i+1))
	}
	return room[:n], room
}

func TestWhatIsPrintedIsntChangedNorKept(t *testing.T) {
	for _, n := range []int{0, 1, 2, 31, 32, 33} {
		l, room := roomy(n)
		ahead := told(room)
		s, x := Stable{Record: vote.Record{Last: view(n), Pending: l}}, full(2)
		x.Rec = s.Record
		b, e := Print(s)
		c, f := PrintItem(x)
		if told(room) != ahead {
			t.Errorf("%d: what was handed in is changed: %.300q", n, told(room))
		}
		was, wasItem := strings.Clone(b), strings.Clone(c)
		scribble(l)
		if b != was || c != wasItem || e != f {
			t.Errorf("%d: what was handed in is in the answer", n)
		}
		s.Pending, _ = roomy(n)
		prints(t, s, was, e)
	}
}

func TestWhatIsParsedIsNewMemory(t *testing.T) {
	for _, n := range []int{1, 2, 3, 31, 32} {
		s := stableBytes(Stable{Record: record(n)})
		x, _ := Parse(s)
		y, _ := Parse(s)
		scribble(x.Pending)
		if told(y.Record) != told(record(n)) {
			t.Errorf("%d: two answers share memory", n)
		}
		b := itemBytes(Item{Kind: 2, Rec: record(n)})
		v, _ := ParseItem(b)
		w, _ := ParseItem(b)
		scribble(v.Rec.Pending)
		if told(w.Rec) != told(record(n)) || told(y.Record) != told(record(n)) {
			t.Errorf("%d: two answers share memory", n)
		}
		parses(t, s, Stable{Record: record(n)}, api.OK)
		parsesItem(t, b, Item{Kind: 2, Rec: record(n)}, api.OK)
	}
}

// shares: does the text a stand in the memory of b?
func shares(a, b string) bool {
	if a == "" || b == "" {
		return false
	}
	from, at := uintptr(unsafe.Pointer(unsafe.StringData(b))), uintptr(unsafe.Pointer(unsafe.StringData(a)))
	return at >= from && at < from+uintptr(len(b))
}

func TestDataIsNewMemory(t *testing.T) {
	for _, kind := range []int{1, 4} {
		for _, n := range []int{1, 2, 100, 1011} {
			x := full(kind)
			x.Data = noise(n, 5)
			b, _ := PrintItem(x)
			if shares(x.Data, b) || shares(b, x.Data) {
				t.Errorf("%d: the bytes share memory with the data that was handed in", kind)
			}
			y, _ := ParseItem(b)
			z, _ := ParseItem(b)
			if y.Data != x.Data || shares(y.Data, b) || shares(y.Data, z.Data) {
				t.Errorf("%d: the data shares memory with the bytes, or with another answer's", kind)
			}
		}
	}
}

func TestAnAnswerHangsOnNothingElse(t *testing.T) {
	for range 2 {
		for _, x := range append(items(), ugly(1), ugly(2), ugly(3), ugly(4), ugly(5)) {
			s, e := PrintItem(x)
			if want := wrongItem(x); e != want {
				t.Errorf("%.300q: %d, not %d", told(x), e, want)
			}
			PrintItem(ugly(2)) // an error in between changes nothing
			Parse("\x01")
			ParseItem("\x02")
			Print(Stable{Record: record(33)})
			printsItem(t, x, s, e)
		}
	}
}

func TestAMistakeIsntTakenForAnError(t *testing.T) {
	for _, mistake := range []any{"a mistake", 2, fmt.Errorf("a mistake"), []int{1}} {
		func() {
			defer func() {
				if given := recover(); !reflect.DeepEqual(given, mistake) {
					t.Errorf("%v, not %v", given, mistake)
				}
			}()
			answer(func() string { panic(mistake) })
		}()
	}
	for e := api.ErrRange; e <= api.ErrUp; e++ {
		if s, f := answer(func() string { panic(e) }); s != "" || f != e {
			t.Errorf("%d: %q, %d", e, s, f)
		}
	}
}

func TestKindsAndBounds(t *testing.T) {
	if ItApp != 1 || ItState != 2 || ItAttempt != 3 || ItChunk != 4 || maxShort != 65535 {
		t.Error("a kind's number is another one")
	}
}
