package packet

import (
	"encoding/binary"
	"fmt"
	"hash/crc32"
	"math"
	"reflect"
	"slices"
	"strings"
	"testing"
	"unsafe"

	"consort/api"
)

// The chapter's table, in letters: 8 and 4 are numbers of so many bytes, p is a process, s a service, v a vector, t a payload, X how many exchanges there are and these.
const (
	confRow     = "8p"
	messageRow  = "48svt"
	exchangeRow = "p" + confRow + "v" + "8p"
)

// row: what a body of that kind is made of.
func row(kind int) string {
	return confRow + []string{1: messageRow, 2: "84v8", 3: "p4", 4: confRow + "88", 5: "8", 6: exchangeRow, 7: "8X", 8: "p4", 9: "p" + messageRow, 10: "", 11: ""}[kind]
}

// named: which of a packet's fields a kind names.
func named(kind int) []string {
	if kind < 1 || kind > 11 {
		return []string{"Kind", "From", "To"}
	}
	more := []string{1: "M", 2: "Stamp Sent Got Horizon", 3: "Whom Seq", 4: "Prom Epoch Members", 5: "Members", 6: "X", 7: "Members X", 8: "Whom Seq", 9: "Whom M", 10: "", 11: ""}
	return append([]string{"Kind", "From", "To", "Conf"}, strings.Fields(more[kind])...)
}

// full: a packet of that kind, none of whose fields is zero.
func full(kind int) api.Packet {
	return api.Packet{
		Kind: kind, From: 7, To: 8, Conf: api.Conf{Epoch: 0x0102030405060708, Rep: 9},
		M:     api.Message{From: 10, Seq: 0x11121314, Stamp: 0x2122232425262728, Service: api.Safe, Deps: []uint32{0x31323334, 0, math.MaxUint32}, Payload: "hi\x00\xff"},
		Stamp: 0x4142434445464748, Sent: 0x51525354, Got: []uint32{0x61626364, 1}, Horizon: 0x7172737475767778, Whom: 11, Seq: 0x81828384,
		Members: 0x9192939495969798, Prom: api.Conf{Epoch: 0xA1A2A3A4A5A6A7A8, Rep: 12}, Epoch: 0xB1B2B3B4B5B6B7B8,
		X: []api.Exchange{{Who: 13, Old: api.Conf{Epoch: 0xC1C2C3C4C5C6C7C8, Rep: 14}, Count: []uint32{0xD1D2D3D4}, Last: api.Key{Stamp: 0xE1E2E3E4E5E6E7E8, From: 15}}},
	}
}

// vector: n numbers, none of which is zero.
func vector(n int, from uint32) []uint32 {
	v := make([]uint32, n)
	for i := range v {
		v[i] = from + uint32(i)*0x01010101
	}
	return v
}

// swaps: n exchanges, with vectors of all lengths.
func swaps(n int) []api.Exchange {
	l := make([]api.Exchange, n)
	for i := range l {
		l[i] = api.Exchange{Who: i % 64, Old: api.Conf{Epoch: uint64(i) << 40, Rep: 63 - i%64}, Count: vector(i%65, uint32(i+1)), Last: api.Key{Stamp: math.MaxUint64 - uint64(i), From: (i + 7) % 64}}
	}
	return l
}

// packets: that can be printed, of all kinds.
func packets() []api.Packet {
	var out []api.Packet
	for kind := 1; kind <= 11; kind++ {
		out = append(out, full(kind), bare(kind), greatest(kind))
	}
	for i, n := range []int{0, 1, 2, 3, 63, 64} {
		for _, kind := range []int{1, 2, 6, 7, 9} {
			p := full(kind)
			p.From, p.To, p.Whom = i%64, 63-i%64, 5*i
			p.M.Service, p.M.Deps, p.Got = i%3, vector(n, 5), vector(n, 6)
			p.X[0].Count = vector(n, 7)
			if kind == 7 {
				p.X = swaps(n)
			}
			out = append(out, p)
		}
	}
	for _, n := range []int{0, 1, 2, 255, 256, 257, 1023, 1024} {
		for _, kind := range []int{1, 9} {
			p := full(kind)
			p.M.Payload = noise(n, uint32(n))
			out = append(out, p)
		}
	}
	p := full(7) // the longest body there is
	p.X = swaps(64)
	for i := range p.X {
		p.X[i].Count = vector(64, uint32(i))
	}
	return append(out, p)
}

// bare: a packet of that kind with nothing but what it has to have.
func bare(kind int) api.Packet {
	p := api.Packet{Kind: kind}
	if kind == 6 {
		p.X = make([]api.Exchange, 1)
	}
	return p
}

// greatest: a packet of that kind, all of whose numbers are as great as may be.
func greatest(kind int) api.Packet {
	conf := api.Conf{Epoch: math.MaxUint64, Rep: 63}
	top := []uint32{math.MaxUint32}
	return api.Packet{
		Kind: kind, From: 63, To: 63, Conf: conf, Stamp: math.MaxUint64, Sent: math.MaxUint32, Got: top, Horizon: math.MaxUint64, Whom: 63, Seq: math.MaxUint32,
		M:       api.Message{From: 63, Seq: math.MaxUint32, Stamp: math.MaxUint64, Service: 2, Deps: top, Payload: "\xff"},
		Members: math.MaxUint64, Prom: conf, Epoch: math.MaxUint64, X: []api.Exchange{{Who: 63, Old: conf, Count: top, Last: api.Key{Stamp: math.MaxUint64, From: 63}}},
	}
}

// noise: n bytes that look like chance, the same ones each time.
func noise(n int, seed uint32) string {
	b := make([]byte, n)
	for i := range b {
		seed = seed*1664525 + 1013904223
		b[i] = byte(seed >> 24)
	}
	return string(b)
}

// framed: the bytes of a packet with that body, as the frame's chapter has them and the library sums them.
func framed(kind, from, to int, body string) string {
	b := append([]byte{0xC5, 1, byte(kind), byte(from), byte(to), byte(len(body) >> 8), byte(len(body))}, body...)
	return string(binary.LittleEndian.AppendUint32(b, crc32.ChecksumIEEE(b)))
}

// layout: the values of p's body, in the order of its row; a list's length is a value of its own.
func layout(p api.Packet) string {
	var out []byte
	add := func(l ...any) {
		for _, v := range l {
			out, _ = binary.Append(out, binary.BigEndian, v)
		}
	}
	message := func(m api.Message) {
		add(m.Seq, m.Stamp, byte(m.Service), byte(len(m.Deps)), m.Deps, uint16(len(m.Payload)), []byte(m.Payload))
	}
	exchange := func(x api.Exchange) {
		add(byte(x.Who), x.Old.Epoch, byte(x.Old.Rep), byte(len(x.Count)), x.Count, x.Last.Stamp, byte(x.Last.From))
	}
	add(p.Conf.Epoch, byte(p.Conf.Rep))
	switch p.Kind {
	case 1:
		message(p.M)
	case 2:
		add(p.Stamp, p.Sent, byte(len(p.Got)), p.Got, p.Horizon)
	case 3, 8:
		add(byte(p.Whom), p.Seq)
	case 4:
		add(p.Prom.Epoch, byte(p.Prom.Rep), p.Epoch, p.Members)
	case 5:
		add(p.Members)
	case 6:
		exchange(p.X[0])
	case 7:
		add(p.Members, byte(len(p.X)))
		for _, x := range p.X {
			exchange(x)
		}
	case 9:
		add(byte(p.Whom))
		message(p.M)
	}
	return string(out)
}

// tidy: what the clean packet of p is, by the names of its fields. It shares memory with p.
func tidy(p api.Packet) api.Packet {
	var q api.Packet
	from, to := reflect.ValueOf(p), reflect.ValueOf(&q).Elem()
	for _, name := range named(p.Kind) {
		to.FieldByName(name).Set(from.FieldByName(name))
	}
	switch p.Kind {
	case 1:
		q.M.From = p.From
	case 9:
		q.M.From = p.Whom
	}
	return q
}

// told: p in words, in which an empty list and none are the same.
func told(p api.Packet) string { return fmt.Sprintf("%+v", p) }

// same: are a and b the same packet?
func same(a, b api.Packet) bool {
	swap := func(x, y api.Exchange) bool {
		return x.Who == y.Who && x.Old == y.Old && slices.Equal(x.Count, y.Count) && x.Last == y.Last
	}
	return told(a) == told(b) && slices.Equal(a.Got, b.Got) && slices.Equal(a.M.Deps, b.M.Deps) && a.M.Payload == b.M.Payload && slices.EqualFunc(a.X, b.X, swap)
}

// prints: whether Print answers those bytes, or that error and none, of p.
func prints(t *testing.T, p api.Packet, body string, want api.Errno) {
	t.Helper()
	bytes := ""
	if want == api.OK {
		bytes = framed(p.Kind, p.From, p.To, body)
	}
	if s, e := Print(p); s != bytes || e != want {
		t.Errorf("Print(%.300s) = %.90x, %d, want %.90x, %d", told(p), s, e, bytes, want)
	}
}

// fails: whether Print answers that error, and no bytes, of p.
func fails(t *testing.T, p api.Packet, want api.Errno) {
	t.Helper()
	prints(t, p, "", want)
}

// parses: whether Parse answers that packet of s.
func parses(t *testing.T, s string, want api.Packet) {
	t.Helper()
	if p, e := Parse(s); !same(p, want) || e != api.OK {
		t.Errorf("Parse(%.90x) = %.300s, %d, want %.300s", s, told(p), e, told(want))
	}
}

// refuses: whether Parse answers that error, and no packet, of s.
func refuses(t *testing.T, s string, want api.Errno, what string) {
	t.Helper()
	if p, e := Parse(s); !reflect.DeepEqual(p, api.Packet{}) || e != want {
		t.Errorf("%s: Parse(%.90x, %d bytes) = %.300s, %d, want nothing, %d", what, s, len(s), told(p), e, want)
	}
}

// noProcesses: numbers that are none; of some the lowest byte is one.
func noProcesses() []int {
	return []int{-1, 64, -64, 65, 127, 128, 255, 256, 257, 319, -256, -255, 1 << 32, 1<<32 + 5, math.MinInt + 1, math.MinInt, math.MaxInt}
}

// noServices: numbers that are none; of some the lowest byte is one.
func noServices() []int {
	return []int{-1, 3, 4, 127, 128, 255, 256, 257, 258, -256, -255, -254, 1 << 32, 1<<32 + 1, math.MinInt, math.MaxInt}
}

// noKinds: numbers that are no kind; of some the lowest byte is one.
func noKinds() []int {
	return []int{0, 12, -1, 13, 127, 128, 255, 256, 257, 267, -255, -245, 1 << 32, 1<<32 + 1, math.MinInt + 1, math.MinInt, math.MaxInt}
}

// The greater lengths' lowest bytes are those of one that may be.
var (
	longVectors  = []int{65, 66, 128, 255, 256, 257, 320, 65536, 65537}
	longPayloads = []int{1025, 1026, 2048, 32767, 32768, 65535, 65536, 65537, 66560, 1 << 20}
	longSwaps    = []int{65, 66, 128, 255, 256, 257, 320, 65537}
)

// P6.1: Clean.

func TestCleanOfAllKinds(t *testing.T) {
	for kind := 1; kind <= 11; kind++ {
		for _, p := range []api.Packet{full(kind), bare(kind), greatest(kind), {Kind: kind}} {
			ahead := told(p)
			q := Clean(p)
			if !same(q, tidy(p)) {
				t.Errorf("%s: %s", ahead, told(q))
			}
			if told(p) != ahead {
				t.Errorf("%s: changed to %s", ahead, told(p))
			}
		}
	}
	for _, p := range packets() {
		if !same(Clean(p), tidy(p)) {
			t.Errorf("%.300s: %.300s", told(p), told(Clean(p)))
		}
	}
}

func TestCleanIsZeroInAllItsKindDoesntName(t *testing.T) {
	for kind := -1; kind <= 13; kind++ {
		q := reflect.ValueOf(Clean(full(kind)))
		p := reflect.ValueOf(full(kind))
		for i := range q.NumField() {
			name := q.Type().Field(i).Name
			if !slices.Contains(named(kind), name) {
				if !q.Field(i).IsZero() {
					t.Errorf("%d: %s is %v", kind, name, q.Field(i))
				}
			} else if name != "M" && !reflect.DeepEqual(q.Field(i).Interface(), p.Field(i).Interface()) {
				t.Errorf("%d: %s is %v, not %v", kind, name, q.Field(i), p.Field(i))
			}
		}
	}
}

func TestCleanOfWrongKinds(t *testing.T) {
	for _, kind := range noKinds() {
		if q := Clean(full(kind)); !reflect.DeepEqual(q, api.Packet{Kind: kind, From: 7, To: 8}) {
			t.Errorf("%d: %s", kind, told(q))
		}
	}
}

func TestCleanTellsWhoSentAMessage(t *testing.T) {
	for _, p := range append(noProcesses(), 0, 1, 62, 63) {
		data := Clean(api.Packet{Kind: 1, From: p, Whom: 3, M: api.Message{From: 4, Seq: 5}})
		if data.From != p || data.M.From != p || data.Whom != 0 || data.M.Seq != 5 {
			t.Errorf("%d: %s", p, told(data))
		}
		again := Clean(api.Packet{Kind: 9, From: 3, Whom: p, M: api.Message{From: 4, Seq: 5}})
		if again.From != 3 || again.M.From != p || again.Whom != p || again.M.Seq != 5 {
			t.Errorf("%d: %s", p, told(again))
		}
	}
}

func TestCleanKeepsWhatCantBePrinted(t *testing.T) {
	for kind := 1; kind <= 11; kind++ {
		p := full(kind)
		p.From, p.To, p.Conf.Rep, p.Prom.Rep, p.Whom, p.M.Service = -1, 64, 65, 66, -2, 3
		p.M.Deps, p.M.Payload, p.Got = vector(65, 1), strings.Repeat("p", 1025), vector(257, 2)
		p.X = append(swaps(65), api.Exchange{Who: 64, Old: api.Conf{Rep: -1}, Count: vector(66, 3), Last: api.Key{From: 99}})
		if !same(Clean(p), tidy(p)) {
			t.Errorf("%d: %.300s", kind, told(Clean(p)))
		}
	}
}

func TestCleanAgainIsTheSame(t *testing.T) {
	for _, p := range append(packets(), full(0), full(12)) {
		if q := Clean(p); !same(Clean(q), q) {
			t.Errorf("%.300s: %.300s", told(q), told(Clean(q)))
		}
	}
}

// lists: all lists of numbers that p has.
func lists(p api.Packet) [][]uint32 {
	out := [][]uint32{p.Got, p.M.Deps}
	for _, x := range p.X {
		out = append(out, x.Count)
	}
	return out
}

// scribble: writes on all that p has lists of, and into their spare room.
func scribble(p api.Packet) {
	for _, l := range lists(p) {
		l = l[:cap(l)]
		for i := range l {
			l[i] = 0xEEEEEEEE
		}
	}
	x := p.X[:cap(p.X)]
	for i := range x {
		x[i] = api.Exchange{Who: 99}
	}
}

func TestCleanIsNewMemory(t *testing.T) {
	for kind := 1; kind <= 11; kind++ {
		for _, n := range []int{1, 3, 64} {
			p := full(kind)
			p.X = swaps(n)
			p.Got, p.M.Deps = vector(n, 8), vector(n, 9)
			want := told(tidy(p))
			q, r := Clean(p), Clean(p)
			scribble(p)
			if told(q) != want {
				t.Errorf("%d: what is written on the packet is in the clean one", kind)
			}
			scribble(q)
			if told(r) != want {
				t.Errorf("%d: two answers share memory", kind)
			}
			if s := Clean(full(kind)).M.Payload; s != "" && unsafe.StringData(s) == unsafe.StringData(full(kind).M.Payload) {
				t.Errorf("%d: the payload is the same memory", kind)
			}
		}
	}
}

func TestCleanSharesNoSpareRoom(t *testing.T) {
	for _, kind := range []int{1, 2, 6, 7, 9} {
		p := full(kind)
		room := []uint32{1, 2, 3, 4, 5, 6, 7, 8, 9}
		rows := append(swaps(2), make([]api.Exchange, 7)...)
		p.Got, p.M.Deps, p.X = room[:2], room[2:4], rows[:2]
		p.X[0].Count, p.X[1].Count = room[4:5], room[5:6] // all of one array
		q := Clean(p)
		_, _, _ = append(q.Got, 77), append(q.M.Deps, 77), append(q.X, api.Exchange{Who: 77})
		for _, x := range q.X {
			_ = append(x.Count, 77)
		}
		scribble(q)
		if !slices.Equal(room, []uint32{1, 2, 3, 4, 5, 6, 7, 8, 9}) || rows[0].Who != 0 || rows[1].Who != 1 || rows[2].Who != 0 {
			t.Errorf("%d: what was handed in is changed: %v", kind, room)
		}
		apart(t, Clean(p))
	}
}

// apart: whether p's lists share no memory with each other: what is put behind one, or written on it, isn't in another.
func apart(t *testing.T, p api.Packet) {
	t.Helper()
	all := lists(p)
	for i, l := range all {
		ahead := fmt.Sprint(append(all[:i:i], all[i+1:]...))
		l = l[:cap(l)]
		for j := range l {
			l[j] = ^l[j]
		}
		if fmt.Sprint(append(all[:i:i], all[i+1:]...)) != ahead {
			t.Errorf("%d: the list %d shares memory with another", p.Kind, i)
		}
	}
}

// P6.1: Print, its bytes.

func TestPrintOfTheExample(t *testing.T) {
	p := api.Packet{Kind: api.PkReady, From: 1, To: 2, Conf: api.Conf{Epoch: 5, Rep: 1}}
	prints(t, p, "\x00\x00\x00\x00\x00\x00\x00\x05\x01", api.OK)
}

func TestPrintOfKnownBytes(t *testing.T) {
	const conf = "\x01\x02\x03\x04\x05\x06\x07\x08\x09"
	const message = "\x11\x12\x13\x14\x21\x22\x23\x24\x25\x26\x27\x28\x02\x03\x31\x32\x33\x34\x00\x00\x00\x00\xff\xff\xff\xff\x00\x04hi\x00\xff"
	const members = "\x91\x92\x93\x94\x95\x96\x97\x98"
	const exchange = "\x0d\xc1\xc2\xc3\xc4\xc5\xc6\xc7\xc8\x0e\x01\xd1\xd2\xd3\xd4\xe1\xe2\xe3\xe4\xe5\xe6\xe7\xe8\x0f"
	for i, want := range []string{
		message,
		"\x41\x42\x43\x44\x45\x46\x47\x48\x51\x52\x53\x54\x02\x61\x62\x63\x64\x00\x00\x00\x01\x71\x72\x73\x74\x75\x76\x77\x78",
		"\x0b\x81\x82\x83\x84",
		"\xa1\xa2\xa3\xa4\xa5\xa6\xa7\xa8\x0c\xb1\xb2\xb3\xb4\xb5\xb6\xb7\xb8" + members,
		members, exchange, members + "\x01" + exchange, "\x0b\x81\x82\x83\x84", "\x0b" + message, "", "",
	} {
		prints(t, full(i+1), conf+want, api.OK)
	}
}

func TestPrintOfAllKinds(t *testing.T) {
	for _, p := range packets() {
		prints(t, p, layout(p), api.OK)
	}
}

func TestPrintOfAllProcesses(t *testing.T) {
	for i := range 64 {
		for kind := 1; kind <= 11; kind++ {
			p := full(kind)
			p.From, p.To, p.Conf.Rep, p.Prom.Rep, p.Whom = i, 63-i, (i+1)%64, (i+2)%64, (i+3)%64
			p.X[0].Who, p.X[0].Old.Rep, p.X[0].Last.From = (i+4)%64, (i+5)%64, (i+6)%64
			prints(t, p, layout(p), api.OK)
		}
	}
}

func TestPrintOfWhatItsKindDoesntName(t *testing.T) {
	for _, p := range packets() {
		ugly := full(p.Kind)
		ugly.M.Service, ugly.M.Deps, ugly.M.Payload, ugly.Got, ugly.Whom, ugly.Prom.Rep = 3, vector(65, 1), strings.Repeat("p", 1025), vector(65, 2), 64, -1
		ugly.X = nil
		from, to := reflect.ValueOf(p), reflect.ValueOf(&ugly).Elem()
		for _, name := range named(p.Kind) {
			to.FieldByName(name).Set(from.FieldByName(name))
		}
		prints(t, ugly, layout(p), api.OK)
	}
}

func TestPrintOfAMessagesSenderIsThePackets(t *testing.T) {
	for _, kind := range []int{1, 9} {
		for _, from := range append(noProcesses(), 0, 63) {
			p := full(kind)
			p.M.From = from
			prints(t, p, layout(p), api.OK)
		}
	}
}

// P6.1: Print, its errors.

// flaw: what may be wrong with a packet, and the error that is answered of it.
type flaw struct {
	put  func(p *api.Packet)
	want api.Errno
}

// flaws: of a body of that kind, by its fields from the front: what may be wrong with each of these.
func flaws(kind int) [][]flaw {
	process := func(at func(p *api.Packet) *int) []flaw {
		var out []flaw
		for _, v := range noProcesses() {
			out = append(out, flaw{func(p *api.Packet) { *at(p) = v }, api.ErrRange})
		}
		return out
	}
	long := func(at func(p *api.Packet) *[]uint32) []flaw {
		var out []flaw
		for _, n := range longVectors {
			out = append(out, flaw{func(p *api.Packet) { *at(p) = vector(n, 1) }, api.ErrLong})
		}
		return out
	}
	var service, payload, some, many []flaw
	for _, v := range noServices() {
		service = append(service, flaw{func(p *api.Packet) { p.M.Service = v }, api.ErrRange})
	}
	for _, n := range longPayloads {
		payload = append(payload, flaw{func(p *api.Packet) { p.M.Payload = strings.Repeat("p", n) }, api.ErrLong})
	}
	for _, n := range append([]int{0, 2, 3, 64}, longSwaps...) {
		some = append(some, flaw{func(p *api.Packet) { p.X = wrongSwaps(n) }, api.ErrRange})
	}
	for _, n := range longSwaps {
		many = append(many, flaw{func(p *api.Packet) { p.X = wrongSwaps(n) }, api.ErrLong})
	}
	exchange := [][]flaw{
		process(func(p *api.Packet) *int { return &p.X[0].Who }), process(func(p *api.Packet) *int { return &p.X[0].Old.Rep }),
		long(func(p *api.Packet) *[]uint32 { return &p.X[0].Count }), process(func(p *api.Packet) *int { return &p.X[0].Last.From }),
	}
	message := [][]flaw{service, long(func(p *api.Packet) *[]uint32 { return &p.M.Deps }), payload}
	whom := process(func(p *api.Packet) *int { return &p.Whom })
	more := [][][]flaw{
		1: message, 2: {long(func(p *api.Packet) *[]uint32 { return &p.Got })}, 3: {whom}, 4: {process(func(p *api.Packet) *int { return &p.Prom.Rep })},
		6: append([][]flaw{some}, exchange...), 7: append([][]flaw{many}, exchange...), 8: {whom}, 9: append([][]flaw{whom}, message...), 11: nil,
	}
	return append([][]flaw{process(func(p *api.Packet) *int { return &p.Conf.Rep })}, more[kind]...)
}

// wrongSwaps: n exchanges, each of which is wrong in all its fields.
func wrongSwaps(n int) []api.Exchange {
	l := make([]api.Exchange, n)
	count := vector(65, 1)
	for i := range l {
		l[i] = api.Exchange{Who: 64, Old: api.Conf{Rep: 64}, Count: count, Last: api.Key{From: 64}}
	}
	return l
}

func TestPrintOfWhatIsWrong(t *testing.T) {
	for kind := 1; kind <= 11; kind++ {
		for _, l := range flaws(kind) {
			for _, x := range l {
				p := full(kind)
				x.put(&p)
				fails(t, p, x.want)
			}
		}
	}
}

func TestPrintAnswersTheFirstOfSeveralErrors(t *testing.T) {
	for kind := 1; kind <= 11; kind++ {
		fields := flaws(kind)
		for i, l := range fields {
			for _, x := range l {
				for _, later := range fields[i+1:] {
					p := full(kind)
					later[0].put(&p) // ahead of x, since x may put another X there
					x.put(&p)
					fails(t, p, x.want)
				}
			}
		}
	}
}

func TestPrintAnswersAFramesErrorFirst(t *testing.T) {
	for kind := 1; kind <= 11; kind++ {
		for _, l := range flaws(kind) {
			p := full(kind)
			l[0].put(&p)
			p.From = 64
			fails(t, p, api.ErrRange)
			p.From, p.To = 0, -1
			fails(t, p, api.ErrRange)
			for _, k := range noKinds() {
				p.Kind = k
				fails(t, p, api.ErrKind)
			}
		}
	}
	for _, k := range noKinds() {
		for _, p := range noProcesses() {
			fails(t, api.Packet{Kind: k, From: p, To: p}, api.ErrKind)
			fails(t, api.Packet{Kind: 1, From: p, M: api.Message{Deps: vector(65, 1)}}, api.ErrRange)
			fails(t, api.Packet{Kind: 2, To: p, Got: vector(65, 1)}, api.ErrRange)
		}
		fails(t, full(k), api.ErrKind)
	}
}

func TestPrintOfExchangesThatAreWrong(t *testing.T) {
	for i := range 64 { // whichever of them it is
		for n, put := range []func(x *api.Exchange){
			func(x *api.Exchange) { x.Who = 64 }, func(x *api.Exchange) { x.Old.Rep = -1 }, func(x *api.Exchange) { x.Last.From = 256 }, func(x *api.Exchange) { x.Count = vector(65, 1) },
		} {
			p := full(7)
			p.X = swaps(64)
			put(&p.X[i])
			fails(t, p, []api.Errno{api.ErrRange, api.ErrRange, api.ErrRange, api.ErrLong}[n])
			if i < 63 { // and of two the one ahead
				p.X[i+1] = wrongSwaps(1)[0]
				fails(t, p, []api.Errno{api.ErrRange, api.ErrRange, api.ErrRange, api.ErrLong}[n])
			}
		}
	}
}

func TestPrintLeavesAPacketAsItWas(t *testing.T) {
	for kind := 0; kind <= 12; kind++ {
		p := full(kind)
		room := []uint32{1, 2, 3, 4, 5, 6}
		p.Got, p.M.Deps, p.X[0].Count = room[:1], room[2:3], room[4:5]
		ahead := told(p)
		Print(p)
		p.From = 64
		Print(p)
		p.From = 7
		if told(p) != ahead || !slices.Equal(room, []uint32{1, 2, 3, 4, 5, 6}) {
			t.Errorf("%s: changed to %s, %v", ahead, told(p), room)
		}
	}
}

func TestPrintOfAnExchangeThatIsntJustOne(t *testing.T) {
	for _, n := range []int{0, 2, 3, 63, 64, 65, 66, 256, 257, 1000} {
		p := full(6)
		p.X = make([]api.Exchange, n)
		fails(t, p, api.ErrRange)
	}
}

// P6.2: Parse, the packet.

func TestParseOfTheExample(t *testing.T) {
	s := framed(10, 1, 2, "\x00\x00\x00\x00\x00\x00\x00\x05\x01")
	parses(t, s, api.Packet{Kind: api.PkReady, From: 1, To: 2, Conf: api.Conf{Epoch: 5, Rep: 1}})
}

func TestParseOfAllKinds(t *testing.T) {
	for _, p := range packets() {
		parses(t, framed(p.Kind, p.From, p.To, layout(p)), tidy(p))
	}
}

func TestParseIsNewMemory(t *testing.T) {
	for _, p := range packets() {
		s := framed(p.Kind, p.From, p.To, layout(p))
		q, _ := Parse(s)
		r, _ := Parse(s)
		want := told(tidy(p))
		scribble(q)
		if told(r) != want {
			t.Errorf("%.300s: two answers share memory", want)
		}
		apart(t, r)
		if i := strings.Index(s, p.M.Payload); r.M.Payload != "" && unsafe.StringData(r.M.Payload) == unsafe.StringData(s[i:]) {
			t.Errorf("%.300s: the payload shares memory with what was handed in", want)
		}
	}
}

// P6.2: Parse, its errors.

func TestParseOfWrongFrames(t *testing.T) {
	body := layout(full(10))
	good := framed(10, 1, 2, body)
	for n := range 11 {
		refuses(t, good[:n], api.ErrShort, "fewer than eleven bytes")
	}
	for i := range len(good) {
		b := []byte(good)
		b[i]++
		refuses(t, string(b), api.ErrSum, "a byte turned")
	}
	reseal := func(i, v int) string {
		b := []byte(good[:len(good)-4])
		b[i] = byte(v)
		return string(binary.LittleEndian.AppendUint32(b, crc32.ChecksumIEEE(b)))
	}
	refuses(t, reseal(0, 0xC4), api.ErrForm, "another mark")
	refuses(t, reseal(1, 2), api.ErrVersion, "another version")
	for _, kind := range []int{0, 12, 13, 128, 255} {
		refuses(t, framed(kind, 1, 2, body), api.ErrKind, "another kind")
		refuses(t, framed(kind, 64, 64, "\xff"), api.ErrKind, "another kind, and all else is wrong")
		refuses(t, framed(kind, 1, 2, ""), api.ErrKind, "another kind, without a body")
	}
	for _, p := range []int{64, 65, 128, 255} {
		for kind := 1; kind <= 11; kind++ {
			refuses(t, framed(kind, p, 2, layout(full(kind))), api.ErrRange, "no process sends")
			refuses(t, framed(kind, 1, p, ""), api.ErrRange, "to no process, without a body")
			refuses(t, framed(kind, p, 2, layout(full(kind))+"x"), api.ErrRange, "no process sends, and a byte too many")
		}
	}
	refuses(t, reseal(6, 8), api.ErrLong, "not as long as it says")
	refuses(t, framed(10, 1, 2, strings.Repeat("b", 32769)), api.ErrLong, "a body that is too long")
}

func TestParseOfBodiesThatEndTooEarly(t *testing.T) {
	for _, p := range packets() {
		body := layout(p)
		for n := range len(body) {
			if n > 600 && n < len(body)-600 && n%29 > 0 {
				continue
			}
			refuses(t, framed(p.Kind, p.From, p.To, body[:n]), api.ErrShort, "it ends too early")
		}
	}
}

func TestParseOfBodiesWithMoreBehindThem(t *testing.T) {
	for _, p := range packets() {
		body := layout(p)
		for _, more := range []string{"\x00", "x", "\xff", "\x00\x00", body, strings.Repeat("\x00", 100), strings.Repeat("\x00", 32768-len(body))} {
			if len(body)+len(more) <= 32768 {
				refuses(t, framed(p.Kind, p.From, p.To, body+more), api.ErrForm, "more behind it")
			}
		}
	}
}

func TestParseOfTheLongestBodies(t *testing.T) {
	for kind := 1; kind <= 11; kind++ {
		refuses(t, framed(kind, 1, 2, strings.Repeat("\x00", 32768)), api.ErrForm, "noughts")
		refuses(t, framed(kind, 1, 2, strings.Repeat("\xff", 32768)), api.ErrRange, "all bits set: no process represents the configuration")
		refuses(t, framed(kind, 1, 2, strings.Repeat("\xff", 32769)), api.ErrLong, "a byte more than may be")
	}
}

// tokens: the shape of a body, cut up: each field, and what bytes of it are good ones; 2 is that there are two exchanges.
func tokens(shape string) (good []string, what []byte) {
	for _, c := range shape {
		good = append(good, map[rune]string{'8': "\x80\x00\x00\x00\x00\x00\x00\xff", '4': "\x80\x00\x00\xff", 'p': "\x3f", 's': "\x02", 'v': "\x02\x80\x00\x00\xff\xff\xff\xff\xff", 't': "\x00\x03\xff\x40\x03", '2': "\x02"}[c])
		what = append(what, byte(c))
	}
	return good, what
}

// bad: what may stand in place of such a field, and the error that is answered of it.
func bad(c byte) (l []string, want api.Errno) {
	switch c {
	case 'p':
		return []string{"\x40", "\x41", "\x7f", "\x80", "\xbf", "\xff"}, api.ErrRange
	case 's':
		return []string{"\x03", "\x04", "\x80", "\xfe", "\xff"}, api.ErrRange
	case 'v', '2':
		return []string{"\x41", "\x42", "\x7f", "\x80", "\xff"}, api.ErrLong
	case 't':
		return []string{"\x04\x01", "\x04\x02", "\x08\x00", "\x80\x00", "\xff\xff", "\x05\x00"}, api.ErrLong
	}
	return nil, api.OK
}

func TestParseAnswersTheFirstThatIsWrong(t *testing.T) {
	for kind := 1; kind <= 11; kind++ {
		shape := row(kind)
		if kind == 7 { // with exchanges in it
			shape = row(5) + "2" + exchangeRow + exchangeRow
		}
		good, what := tokens(shape)
		for i, c := range what {
			l, want := bad(c)
			for _, b := range l {
				ahead := strings.Join(good[:i], "")
				rest := strings.Join(good[i+1:], "")
				refuses(t, framed(kind, 1, 2, ahead+b+rest), want, "one field is wrong")
				refuses(t, framed(kind, 1, 2, ahead+b), want, "and the body ends there")
				refuses(t, framed(kind, 1, 2, ahead+b+strings.Repeat("\xff", 2000)), want, "and all behind it too")
				refuses(t, framed(kind, 1, 2, ahead+b+strings.Repeat("\x00", 2000)), want, "and noughts are behind it")
			}
		}
		all := strings.Join(good, "")
		if _, e := Parse(framed(kind, 1, 2, all)); e != api.OK {
			t.Errorf("%d: %d of good fields alone", kind, e)
		}
		refuses(t, framed(kind, 1, 2, all+"\xff"), api.ErrForm, "and a byte too many")
	}
}

func TestParseOfAllBytesThatMayStandAlone(t *testing.T) {
	// The process that represents, whom is asked for, a service, how many numbers, exchanges.
	for v := range 256 {
		conf := "\x00\x00\x00\x00\x00\x00\x00\x05"
		body := conf + string([]byte{byte(v)})
		if v < 64 {
			parses(t, framed(10, 1, 2, body), api.Packet{Kind: 10, From: 1, To: 2, Conf: api.Conf{Epoch: 5, Rep: v}})
		} else {
			refuses(t, framed(10, 1, 2, body), api.ErrRange, "represented by no process")
		}
		conf += "\x01"
		c := api.Conf{Epoch: 5, Rep: 1}
		body = conf + string([]byte{byte(v)}) + "\x00\x00\x00\x09"
		if v < 64 {
			parses(t, framed(3, 1, 2, body), api.Packet{Kind: 3, From: 1, To: 2, Conf: c, Whom: v, Seq: 9})
		} else {
			refuses(t, framed(3, 1, 2, body), api.ErrRange, "of no process")
		}
		body = conf + strings.Repeat("\x00", 12) + string([]byte{byte(v)}) + "\x00\x00\x00"
		if v < 3 {
			parses(t, framed(1, 1, 2, body), api.Packet{Kind: 1, From: 1, To: 2, Conf: c, M: api.Message{From: 1, Service: v}})
		} else {
			refuses(t, framed(1, 1, 2, body), api.ErrRange, "no service")
		}
		body = conf + strings.Repeat("\x00", 12) + string([]byte{byte(v)}) + strings.Repeat("\x00", 4*v+8)
		if v < 65 {
			parses(t, framed(2, 1, 2, body), api.Packet{Kind: 2, From: 1, To: 2, Conf: c, Got: make([]uint32, v)})
		} else {
			refuses(t, framed(2, 1, 2, body), api.ErrLong, "a vector that is too long")
		}
		body = conf + strings.Repeat("\x00", 8) + string([]byte{byte(v)}) + strings.Repeat("\x00", 20*v)
		if v < 65 {
			parses(t, framed(7, 1, 2, body), api.Packet{Kind: 7, From: 1, To: 2, Conf: c, X: make([]api.Exchange, v)})
		} else {
			refuses(t, framed(7, 1, 2, body), api.ErrLong, "too many exchanges")
		}
	}
}

// verdict: what Parse has to answer of a body of that shape: it goes through the shape's letters.
func verdict(shape, body string) api.Errno {
	for shape != "" {
		c := shape[0]
		shape = shape[1:]
		size := map[byte]int{'8': 8, '4': 4, 't': 2}[c]
		if size == 0 {
			size = 1
		}
		if len(body) < size {
			return api.ErrShort
		}
		v := int(body[0])
		if c == 't' {
			v = v<<8 | int(body[1])
		}
		body = body[size:]
		more := 0
		switch c {
		case 'p', 's':
			if c == 'p' && v > 63 || c == 's' && v > 2 {
				return api.ErrRange
			}
		case 'v', 't', 'X':
			if c != 't' && v > 64 || v > 1024 {
				return api.ErrLong
			}
			more = map[byte]int{'v': 4, 't': 1, 'X': 0}[c] * v
			if c == 'X' {
				shape = strings.Repeat(exchangeRow, v) + shape
			}
		}
		if len(body) < more {
			return api.ErrShort
		}
		body = body[more:]
	}
	if body != "" {
		return api.ErrForm
	}
	return api.OK
}

// judged: whether Parse answers of a body what it has to, and what is parsed is clean and is printed to its bytes again.
func judged(t *testing.T, kind int, body string) api.Errno {
	t.Helper()
	s := framed(kind, 5, 6, body)
	want := verdict(row(kind), body)
	if want != api.OK {
		refuses(t, s, want, "as the shape has it")
		return want
	}
	p, e := Parse(s)
	if e != api.OK || p.Kind != kind || p.From != 5 || p.To != 6 || !same(p, tidy(p)) {
		t.Errorf("%d: Parse(%.90x) = %.300s, %d", kind, body, told(p), e)
	}
	prints(t, p, body, api.OK)
	return want
}

func TestParseOfNoise(t *testing.T) {
	seen := map[api.Errno]int{}
	for kind := 1; kind <= 11; kind++ {
		for n := range 300 {
			for seed := range uint32(6) {
				b := []byte(noise(n, seed*977+uint32(kind)))
				for i := range b {
					b[i] &= []byte{0xff, 0x7f, 0x3f, 0x0f, 0x03, 0x01}[seed]
				}
				seen[judged(t, kind, string(b))]++
			}
		}
	}
	if len(seen) < 5 {
		t.Errorf("not all answers are among these: %v", seen)
	}
}

func TestParseOfBodiesThatAreTurned(t *testing.T) {
	seen := map[api.Errno]int{}
	for _, p := range packets() {
		body := layout(p)
		if len(body) > 2000 {
			continue
		}
		for i := range min(len(body), 150) {
			for _, v := range []int{0, 1, 2, 3, 4, 63, 64, 65, 128, 255} {
				b := []byte(body)
				b[i] = byte(v)
				seen[judged(t, p.Kind, string(b))]++
			}
		}
	}
	if len(seen) < 5 {
		t.Errorf("not all answers are among these: %v", seen)
	}
}

func TestParseOfABodyOfAnotherKind(t *testing.T) {
	for _, p := range packets() {
		for kind := 1; kind <= 11; kind++ {
			judged(t, kind, layout(p))
		}
	}
}

// P6.3: what was printed is parsed as its clean packet; what is parsed is printed to its bytes.

func TestWhatWasPrintedIsParsedAsItsCleanPacket(t *testing.T) {
	for _, p := range packets() {
		s, e := Print(p)
		if e != api.OK {
			t.Fatalf("%.300s isn't printed: %d", told(p), e)
		}
		parses(t, s, tidy(p))
		parses(t, s, Clean(p))
		if again, e := Print(Clean(p)); again != s || e != api.OK {
			t.Errorf("%.300s: the clean one is printed otherwise", told(p))
		}
	}
}

func TestWhatIsParsedIsPrintedToItsBytes(t *testing.T) {
	for _, p := range packets() {
		s := framed(p.Kind, p.From, p.To, layout(p))
		q, e := Parse(s)
		if e != api.OK || !same(Clean(q), q) {
			t.Errorf("%.300s: %d", told(q), e)
		}
		if again, e := Print(q); again != s || e != api.OK {
			t.Errorf("%.300s: printed to other bytes: %.90x, %d", told(q), again, e)
		}
	}
}

// What a call answers hangs on its arguments alone, and no error is left over from the call ahead.

func TestTheSameIsAnsweredAgain(t *testing.T) {
	l := packets()
	for i, p := range l {
		s, e := Print(p)
		q, f := Parse(s)
		wrong := full(1 + i%11)
		wrong.Conf.Rep = 64
		fails(t, wrong, api.ErrRange)
		refuses(t, framed(1+i%11, 1, 2, "x"), api.ErrShort, "between")
		if again, g := Print(p); again != s || g != e {
			t.Errorf("%.300s: printed otherwise", told(p))
		}
		if again, g := Parse(s); !same(again, q) || g != f {
			t.Errorf("%.300s: parsed otherwise", told(p))
		}
	}
}

// A panic that tells of no error isn't kept silent.
func TestAnotherPanicGoesOn(t *testing.T) {
	defer func() {
		if given := recover(); given != "a mistake" {
			t.Errorf("%v", given)
		}
	}()
	errno("a mistake")
	t.Error("it didn't go on")
}
