package vote

import (
	"fmt"
	"go/ast"
	"go/parser"
	"go/token"
	"math"
	"math/bits"
	"slices"
	"testing"

	"consort/api"
	"consort/set"
)

// The functions as the chapter's words have them, by no other layer and in another way: numbers are sorted, views are told by their text, members are counted one by one.

// lasts: the numbers of the last views, rising.
func lasts(l []Record) []uint64 {
	var out []uint64
	for _, r := range l {
		out = append(out, r.Last.Number)
	}
	slices.Sort(out)
	return out
}

func toldLast(l []Record) api.View {
	for _, r := range l {
		if n := lasts(l); r.Last.Number == n[len(n)-1] {
			return r.Last
		}
	}
	return api.View{}
}

// text: all fields of a view.
func text(v api.View) string {
	return fmt.Sprint(v.Number, ":", v.Conf.Epoch, ":", v.Conf.Rep, ":", v.Members)
}

func toldPending(l []Record) []api.View {
	var out []api.View
	had := map[string]bool{}
	for i := range l {
		for j := range l[i].Pending {
			v := l[i].Pending[j]
			if v.Number <= toldLast(l).Number || had[text(v)] {
				continue
			}
			had[text(v)] = true
			out = append(out, v)
		}
	}
	return out
}

// most: do more than half of the members of t stand in s?
func most(s, t uint64) bool {
	in, out := 0, 0
	for p := 0; p < 64; p++ {
		if t>>p&1 == 0 {
			continue
		}
		if s>>p&1 == 1 {
			in++
		} else {
			out++
		}
	}
	return in > out
}

func toldMay(members uint64, l []Record) bool {
	if len(l) == 0 || !most(members, toldLast(l).Members) {
		return false
	}
	for _, v := range toldPending(l) {
		if !most(members, v.Members) {
			return false
		}
	}
	return true
}

func toldNext(l []Record) uint64 {
	all := lasts(l)
	for _, r := range l {
		for _, v := range r.Pending {
			all = append(all, v.Number)
		}
	}
	slices.Sort(all)
	switch {
	case len(all) == 0:
		return 1
	case all[len(all)-1] == 1<<64-1:
		return 1<<64 - 1
	}
	return all[len(all)-1] + 1
}

func toldAdd(r Record, v api.View) (Record, bool) {
	if len(r.Pending) > 31 {
		return r, false
	}
	out := make([]api.View, len(r.Pending)+1)
	for i := range r.Pending {
		out[i] = r.Pending[i]
	}
	out[len(r.Pending)] = v
	return Record{r.Last, out}, true
}

func toldForm(r Record, v api.View) Record {
	return Record{v, slices.DeleteFunc(slices.Clone(r.Pending), func(p api.View) bool { return p.Number <= v.Number })}
}

// alike: the same records; no pending ones may be nil or empty.
func alike(a, b Record) bool { return a.Last == b.Last && slices.Equal(a.Pending, b.Pending) }

// worth: a list of records in which nothing is shared with l, with spare room of its own behind each record's pending views, and behind the records.
func worth(l []Record) []Record {
	out := make([]Record, 0, len(l)+2)
	for _, r := range l {
		p := append(make([]api.View, 0, len(r.Pending)+2), r.Pending...)
		for i := range p[len(p):cap(p)] {
			p[len(p):cap(p)][i] = mark
		}
		out = append(out, Record{r.Last, p})
	}
	for i := range out[len(out):cap(out)] {
		out[len(out):cap(out)][i] = Record{Last: mark}
	}
	return out
}

// mark: a view of which nothing else is made.
var mark = api.View{Number: 77, Conf: api.Conf{Epoch: 77, Rep: 77}, Members: 77}

// kept: whether l is still what worth answered for was: its records, their views, the spare room of both.
func kept(l, was []Record) bool {
	if !slices.EqualFunc(l, was, alike) {
		return false
	}
	for _, r := range l[len(l):cap(l)] {
		if r.Last != mark || r.Pending != nil {
			return false
		}
	}
	for _, r := range l {
		for _, v := range r.Pending[len(r.Pending):cap(r.Pending)] {
			if v != mark {
				return false
			}
		}
	}
	return true
}

// scribble: all of a list of views, with its spare room, is written over.
func scribble(l []api.View) {
	for i := range l[:cap(l)] {
		l[:cap(l)][i] = api.View{Number: 66, Members: 66}
	}
}

// view: the view of that number, of those members, and of the configuration {number 1}.
func view(n uint64, l ...int) api.View {
	return api.View{Number: n, Conf: api.Conf{Epoch: n, Rep: 1}, Members: uint64(set.Of(l...))}
}

func views(l ...api.View) []api.View { return l }

// of: a record of those.
func of(last api.View, pending ...api.View) Record { return Record{last, pending} }

// asked: what is answered of all records together is what the words say, twice; nothing that was handed in is changed, or shared.
func asked(t *testing.T, l []Record) {
	t.Helper()
	in := worth(l)
	for range 2 {
		if v := Last(in...); v != toldLast(l) {
			t.Fatalf("Last(%v): %v", l, v)
		}
		if n := Next(in...); n != toldNext(l) {
			t.Fatalf("Next(%v): %d", l, n)
		}
		p := Pending(in...)
		if !slices.Equal(p, toldPending(l)) {
			t.Fatalf("Pending(%v): %v", l, p)
		}
		scribble(p)
		if !kept(in, l) {
			t.Fatalf("%v became %v", l, in)
		}
	}
}

// may: May answers what the words say, twice, and changes nothing.
func may(t *testing.T, members uint64, l []Record) bool {
	t.Helper()
	in := worth(l)
	want := toldMay(members, l)
	for range 2 {
		if May(set.Set(members), in...) != want {
			t.Fatalf("May(%b, %v): not %v", members, l, want)
		}
	}
	if !kept(in, l) {
		t.Fatalf("May: %v became %v", l, in)
	}
	return want
}

// changed: Add and Form answer what the words say, twice, share nothing, and change nothing.
func changed(t *testing.T, r Record, v api.View) {
	t.Helper()
	in := worth([]Record{r})
	add, ok := toldAdd(r, v)
	for range 2 {
		a, b := Add(in[0], v)
		if !alike(a, add) || b != ok {
			t.Fatalf("Add(%v, %v): %v %v", r, v, a, b)
		}
		f := Form(in[0], v)
		if !alike(f, toldForm(r, v)) {
			t.Fatalf("Form(%v, %v): %v", r, v, f)
		}
		scribble(a.Pending)
		if !alike(f, toldForm(r, v)) {
			t.Fatalf("Form(%v, %v) shares with Add", r, v)
		}
		scribble(f.Pending)
		if !kept(in, []Record{r}) {
			t.Fatalf("%v became %v", r, in)
		}
	}
}

// odd: numbers that no count of processes, or no process, is.
var odd = []int{math.MinInt, math.MinInt + 1, -1 << 32, -1<<32 + 3, -65, -64, -63, -1, 65, 66, 127, 128, 129, 1 << 31, 1<<32 - 1, 1 << 32, 1<<32 + 3, math.MaxInt - 1, math.MaxInt}

// top: the greatest number that there is.
const top = math.MaxUint64

// P18.1: First.

func TestFirst(t *testing.T) {
	for n, want := range map[int]uint64{0: 0, 1: 1, 2: 3, 3: 7, 5: 31, 32: 1<<32 - 1, 63: 1<<63 - 1, 64: 1<<64 - 1} {
		if r := First(n); !alike(r, of(api.View{Members: want})) {
			t.Errorf("First(%d): %v", n, r)
		}
	}
	for n := range 65 {
		r := First(n)
		for p := range 64 {
			if r.Last.Members>>p&1 == 1 != (p < n) {
				t.Errorf("First(%d): is %d a member?", n, p)
			}
		}
		if r.Last.Number != 0 || r.Last.Conf != (api.Conf{}) || len(r.Pending) != 0 {
			t.Errorf("First(%d): %v", n, r)
		}
	}
}

func TestFirstOfNumbersOutOfTheRange(t *testing.T) {
	for _, n := range odd {
		want := uint64(0)
		if n > 0 {
			want = top
		}
		if r := First(n); !alike(r, of(api.View{Members: want})) {
			t.Errorf("First(%d): %v", n, r)
		}
	}
}

func TestFirstIsNewMemory(t *testing.T) {
	r := First(3)
	r.Pending = append(r.Pending, mark)
	r.Last.Members = 5
	scribble(r.Pending)
	if r := First(3); !alike(r, of(api.View{Members: 7})) {
		t.Error(r)
	}
}

// P18.1: Last.

func TestLast(t *testing.T) {
	a, b := view(3, 0, 1), view(4, 2)
	same := api.View{Number: 3, Conf: api.Conf{Epoch: 9}, Members: 1}
	zero := api.View{Conf: api.Conf{Epoch: 2, Rep: 3}, Members: 6}
	most := api.View{Number: top, Conf: api.Conf{Epoch: top, Rep: 63}, Members: top}
	for i, x := range []struct {
		l    []Record
		want api.View
	}{
		{nil, api.View{}},
		{[]Record{}, api.View{}},
		{[]Record{{}}, api.View{}},
		{[]Record{of(a)}, a},
		{[]Record{of(a), of(b)}, b},
		{[]Record{of(b), of(a)}, b},
		{[]Record{of(a), of(b), of(a)}, b},
		// The same Number: the first one.
		{[]Record{of(a), of(same)}, a},
		{[]Record{of(same), of(a)}, same},
		{[]Record{First(2), of(same), of(a)}, same},
		{[]Record{of(zero), First(4)}, zero},
		{[]Record{First(4), of(zero)}, First(4).Last},
		{[]Record{{}, of(zero)}, api.View{}},
		{[]Record{of(most), of(view(top))}, most},
		{[]Record{of(view(top)), of(most)}, view(top)},
		{[]Record{of(view(top - 1)), of(most)}, most},
		{[]Record{of(view(1<<63 - 1)), of(view(1 << 63))}, view(1 << 63)},
		{[]Record{of(view(1 << 32)), of(view(1))}, view(1 << 32)},
		// A configuration's epoch, and how many members there are, play no part.
		{[]Record{of(api.View{Number: 1, Conf: api.Conf{Epoch: 9}, Members: 7}), of(api.View{Number: 2})}, api.View{Number: 2}},
		// Nor do pending views.
		{[]Record{of(a, b), of(view(1), view(top))}, a},
	} {
		if v := Last(x.l...); v != x.want {
			t.Errorf("%d: %v", i, v)
		}
		asked(t, x.l)
	}
	if Last() != (api.View{}) || Last(of(a), of(b), First(2)) != b {
		t.Error("one by one")
	}
}

// P18.1: Pending.

func TestPending(t *testing.T) {
	a, b, c := view(4, 0, 1), view(5, 1, 2), view(6, 2)
	for i, x := range []struct {
		l    []Record
		want []api.View
	}{
		{nil, nil},
		{[]Record{{}}, nil},
		{[]Record{of(view(3))}, nil},
		{[]Record{of(view(3), a, b)}, views(a, b)},
		// In the order in which they stand, not in that of their Numbers.
		{[]Record{of(view(3), b, a)}, views(b, a)},
		{[]Record{of(view(3), c), of(view(3), a, b)}, views(c, a, b)},
		{[]Record{of(view(3), a, b), of(view(3), c)}, views(a, b, c)},
		// Below the last view, at it, above it.
		{[]Record{of(view(5), a, b, c)}, views(c)},
		{[]Record{of(view(4), a, b, c)}, views(b, c)},
		{[]Record{of(view(6), a, b, c)}, nil},
		{[]Record{of(view(3), a, b, c), of(view(5))}, views(c)},
		{[]Record{of(view(5)), of(view(3), a, b, c)}, views(c)},
		{[]Record{of(view(0), view(0, 1)), of(view(0), view(1, 1))}, views(view(1, 1))},
		{[]Record{of(view(top-1), view(top-1), view(top), view(top-2))}, views(view(top))},
		{[]Record{of(view(top), view(top), view(1))}, nil},
		{[]Record{of(view(1), view(1<<63), view(1<<32))}, views(view(1<<63), view(1<<32))},
		// The same twice, in one record and in two.
		{[]Record{of(view(3), a, a)}, views(a)},
		{[]Record{of(view(3), a, b, a, b, a)}, views(a, b)},
		{[]Record{of(view(3), a), of(view(3), a)}, views(a)},
		{[]Record{of(view(3), a, b), of(view(2), b, c, a)}, views(a, b, c)},
		{[]Record{of(view(3), b), of(view(3)), of(view(3), a, b)}, views(b, a)},
		// The last view itself, if another one still has it as pending.
		{[]Record{of(view(2), a), of(a)}, nil},
	} {
		if l := Pending(x.l...); !slices.Equal(l, x.want) {
			t.Errorf("%d: %v", i, l)
		}
		asked(t, x.l)
	}
	if len(Pending()) != 0 || !slices.Equal(Pending(of(view(3), a), of(view(4), a, b)), views(b)) {
		t.Error("one by one")
	}
}

func TestPendingViewsThatDifferInOneFieldAreTwo(t *testing.T) {
	a := api.View{Number: 4, Conf: api.Conf{Epoch: 7, Rep: 2}, Members: 12}
	for i, b := range []api.View{
		{Number: 5, Conf: a.Conf, Members: 12},
		{Number: 4 + 1<<32, Conf: a.Conf, Members: 12},
		{Number: 4, Conf: api.Conf{Epoch: 8, Rep: 2}, Members: 12},
		{Number: 4, Conf: api.Conf{Epoch: 7 + 1<<63, Rep: 2}, Members: 12},
		{Number: 4, Conf: api.Conf{Epoch: 7, Rep: 3}, Members: 12},
		{Number: 4, Conf: api.Conf{Epoch: 7, Rep: -2}, Members: 12},
		{Number: 4, Conf: api.Conf{Epoch: 7, Rep: 2 + 1<<32}, Members: 12},
		{Number: 4, Conf: a.Conf, Members: 13},
		{Number: 4, Conf: a.Conf, Members: 12 + 1<<63},
		{Number: 4},
	} {
		for _, l := range [][]Record{{of(view(3), a, b)}, {of(view(3), a), of(view(3), b)}, {of(view(3), a, b, a), of(view(2), b, a)}} {
			if p := Pending(l...); !slices.Equal(p, views(a, b)) {
				t.Errorf("%d: %v", i, p)
			}
			asked(t, l)
		}
	}
}

// P18.2: May.

func TestMay(t *testing.T) {
	three, four := view(3, 0, 1, 2), view(3, 0, 1, 2, 3)
	for i, x := range []struct {
		members set.Set
		l       []Record
		want    bool
	}{
		// Of no records, of nobody, and of a view of nobody: no.
		{set.All(64), nil, false},
		{set.All(64), []Record{}, false},
		{0, nil, false},
		{0, []Record{First(3)}, false},
		{set.All(64), []Record{{}}, false},
		{0, []Record{{}}, false},
		{set.All(64), []Record{First(0)}, false},
		// Most of an odd number, and of an even one.
		{set.Of(0), []Record{First(1)}, true},
		{set.Of(1), []Record{First(1)}, false},
		{set.Of(0), []Record{First(2)}, false},
		{set.Of(0, 1), []Record{First(2)}, true},
		{set.Of(0, 1), []Record{of(three)}, true},
		{set.Of(1, 2), []Record{of(three)}, true},
		{set.Of(2), []Record{of(three)}, false},
		{set.Of(0, 1), []Record{of(four)}, false},
		{set.Of(0, 1, 3), []Record{of(four)}, true},
		{set.All(32), []Record{First(64)}, false},
		{set.All(33), []Record{First(64)}, true},
		{set.All(64).But(set.All(32)), []Record{First(63)}, false},
		{set.All(64).But(set.All(31)), []Record{First(63)}, true},
		// Others than the view's members play no part.
		{set.Of(0, 3, 4, 5), []Record{of(three)}, false},
		{set.Of(0, 1, 3, 4, 5, 63), []Record{of(three)}, true},
		// The last view alone counts, not those ahead of it, and of one Number the first one.
		{set.Of(0, 1), []Record{of(view(1, 5, 6)), of(three)}, true},
		{set.Of(5, 6), []Record{of(view(1, 5, 6)), of(three)}, false},
		{set.Of(5, 6), []Record{of(view(3, 5, 6)), of(three)}, true},
		{set.Of(5, 6), []Record{of(three), of(view(3, 5, 6))}, false},
		// Of each pending view, too: the first, the last, one of another record.
		{set.Of(0, 1), []Record{of(three, view(4, 0, 1))}, true},
		{set.Of(1, 2), []Record{of(three, view(4, 0, 1))}, false},
		{set.Of(0, 1), []Record{of(three, view(4, 0, 1), view(5, 1, 2))}, false},
		{set.Of(0, 1), []Record{of(three, view(4, 1, 2), view(5, 0, 1))}, false},
		{set.Of(0, 1, 2), []Record{of(three, view(4, 1, 2), view(5, 0, 1))}, true},
		{set.Of(0, 1), []Record{of(three), of(view(1), view(4, 1, 2))}, false},
		{set.Of(1, 2), []Record{of(three), of(view(1), view(4, 1, 2))}, true},
		// Most of the pending ones alone isn't enough.
		{set.Of(5, 6), []Record{of(three, view(4, 5, 6))}, false},
		{set.Of(5), []Record{of(view(0), view(4, 5))}, false},
		// Of a pending view of nobody there is no most.
		{set.All(64), []Record{of(three, view(4))}, false},
		// Pending ones below and at the last view play no part, of those above each does.
		{set.Of(0, 1), []Record{of(three, view(2, 5), view(3, 5))}, true},
		{set.Of(0, 1), []Record{of(three, view(4, 5))}, false},
		{set.Of(0, 1), []Record{of(view(1, 9), view(2, 5), view(3, 5)), of(three)}, true},
		{set.Of(0, 1), []Record{of(view(1, 9), view(2, 5), view(4, 5)), of(three)}, false},
		{set.Of(0, 1), []Record{of(view(top, 0), view(top, 5))}, true},
		{set.Of(0, 1), []Record{of(view(top-1, 0), view(top, 5))}, false},
	} {
		if May(x.members, x.l...) != x.want {
			t.Errorf("%d: not %v", i, x.want)
		}
		may(t, uint64(x.members), x.l)
	}
	if May(3) || !May(3, First(3)) || !May(3, First(3), of(view(1, 0), view(2, 0, 1))) || May(3, First(3), of(view(1, 0), view(2, 1, 2))) {
		t.Error("one by one")
	}
}

// P18.2: Next.

func TestNext(t *testing.T) {
	for i, x := range []struct {
		l    []Record
		want uint64
	}{
		{nil, 1},
		{[]Record{}, 1},
		{[]Record{{}}, 1},
		{[]Record{First(3)}, 1},
		{[]Record{of(view(1))}, 2},
		{[]Record{of(view(4)), of(view(9)), of(view(7))}, 10},
		{[]Record{of(view(4), view(5))}, 6},
		{[]Record{of(view(4), view(9), view(5))}, 10},
		{[]Record{of(view(4), view(5), view(9))}, 10},
		// All pending ones count, those below the last view are just not the greatest.
		{[]Record{of(view(9), view(5))}, 10},
		{[]Record{of(view(9), view(9))}, 10},
		{[]Record{of(view(1), view(12)), of(view(9), view(10))}, 13},
		{[]Record{of(view(9), view(10)), of(view(1), view(12))}, 13},
		{[]Record{of(view(1<<32 - 1))}, 1 << 32},
		{[]Record{of(view(1<<63 - 1))}, 1 << 63},
		{[]Record{of(view(3), view(1<<63))}, 1<<63 + 1},
		// The greatest that there is has none behind it.
		{[]Record{of(view(top - 2))}, top - 1},
		{[]Record{of(view(top - 1))}, top},
		{[]Record{of(view(top))}, top},
		{[]Record{of(view(0), view(top-1))}, top},
		{[]Record{of(view(0), view(top))}, top},
		{[]Record{of(view(0), view(top), view(1)), of(view(2))}, top},
		{[]Record{of(view(top), view(top))}, top},
	} {
		if n := Next(x.l...); n != x.want {
			t.Errorf("%d: %d", i, n)
		}
		asked(t, x.l)
	}
	if Next() != 1 || Next(of(view(3)), of(view(1), view(6)), First(9)) != 7 {
		t.Error("one by one")
	}
}

// P18.3: Add.

// many: a record with n pending views, of which no two are the same.
func many(n int) Record {
	r := of(view(5, 1, 2))
	for i := range n {
		r.Pending = append(r.Pending, view(uint64(3*i), i%64, 7))
	}
	return r
}

func TestAdd(t *testing.T) {
	r := Record{Last: view(5, 1)}
	for i, v := range []api.View{view(6, 1), view(9, 2), view(6, 1), view(5, 1), view(2), {}, view(top, 63)} {
		// What is pending already, and what comes ahead of the last view, is put there like any other.
		got, ok := Add(r, v)
		if !ok || got.Last != r.Last || len(got.Pending) != i+1 || got.Pending[i] != v || !slices.Equal(got.Pending[:i], r.Pending) {
			t.Fatalf("%d: %v", i, got)
		}
		changed(t, r, v)
		r = got
	}
}

func TestAddWhereThereIsNoRoom(t *testing.T) {
	for n := range 70 {
		r := many(n)
		got, ok := Add(r, view(8, 3))
		want := slices.Clone(r.Pending)
		if n < 32 {
			want = append(want, view(8, 3))
		}
		if ok != (n < 32) || got.Last != r.Last || !slices.Equal(got.Pending, want) {
			t.Errorf("%d: %v %v", n, got, ok)
		}
		changed(t, r, view(8, 3))
		changed(t, r, r.Last)
	}
	for _, n := range []int{31, 32, 33, 64, 255, 256, 257, 1000, 1 << 16} {
		if got, ok := Add(many(n), view(8, 3)); ok != (n < 32) || len(got.Pending) != max(n, 32) {
			t.Errorf("%d: %v", n, ok)
		}
	}
}

func TestAddOneByOneTillThereIsNoRoom(t *testing.T) {
	r := First(3)
	for i := range 40 {
		var ok bool
		r, ok = Add(r, view(Next(r), i))
		if ok != (i < 32) || len(r.Pending) != min(i+1, 32) || Next(r) != uint64(min(i+1, 32))+1 {
			t.Fatalf("%d: %v", i, ok)
		}
	}
	if r = Form(r, view(32)); len(r.Pending) != 0 {
		t.Error(r)
	}
	if r, ok := Add(r, view(33)); !ok || len(r.Pending) != 1 {
		t.Error(r)
	}
}

// P18.3: Form.

func TestForm(t *testing.T) {
	a, b, c := view(4, 0), view(5, 1), view(6, 2)
	for i, x := range []struct {
		r    Record
		v    api.View
		want []api.View
	}{
		{Record{}, view(1, 1), nil},
		{of(view(3)), view(4), nil},
		// Pending ones below it, at it, above it.
		{of(view(3), a, b, c), view(3), views(a, b, c)},
		{of(view(3), a, b, c), a, views(b, c)},
		{of(view(3), a, b, c), b, views(c)},
		{of(view(3), a, b, c), view(5, 9), views(c)},
		{of(view(3), a, b, c), c, nil},
		{of(view(3), a, b, c), view(7), nil},
		// In their order, each as often as it stands there.
		{of(view(3), c, a, b, c, a), a, views(c, b, c)},
		{of(view(3), a, a), view(3), views(a, a)},
		// Its own Number decides, not that of the last view.
		{of(view(5), a, b, c), view(2), views(a, b, c)},
		{of(view(9), a, b, c), a, views(b, c)},
		{of(view(1), a, b, c), api.View{}, views(a, b, c)},
		{of(view(1), view(0), view(1)), api.View{}, views(view(1))},
		{of(view(1), view(top), view(top-1)), view(top - 1), views(view(top))},
		{of(view(1), view(top), view(top-1)), view(top), nil},
		{of(view(1), view(1<<63), view(1<<32)), view(1 << 32), views(view(1 << 63))},
	} {
		if got := Form(x.r, x.v); !alike(got, of(x.v, x.want...)) {
			t.Errorf("%d: %v", i, got)
		}
		changed(t, x.r, x.v)
	}
	for _, n := range []int{31, 32, 33, 100, 1000} {
		// Also of such as have more than there may be.
		if got := Form(many(n), view(5)); !alike(got, of(view(5), many(n).Pending[2:]...)) {
			t.Errorf("%d: %v", n, got)
		}
	}
}

// P18.1 to P18.4: all rows of a menu.

// menu: all records that have one of these last views and up to so many of those pending ones.
func menu(last, pending []api.View, deep int) []Record {
	var out []Record
	rows := [][]api.View{nil}
	for range deep + 1 {
		var longer [][]api.View
		for _, row := range rows {
			for _, v := range last {
				out = append(out, Record{v, row})
			}
			for _, v := range pending {
				longer = append(longer, append(slices.Clone(row), v))
			}
		}
		rows = longer
	}
	return out
}

// rows: f is done with each list of up to n records of the menu.
func rows(m []Record, n int, f func([]Record)) {
	var on func([]Record)
	on = func(l []Record) {
		f(slices.Clone(l))
		if len(l) == n {
			return
		}
		for _, r := range m {
			on(append(l, r))
		}
	}
	on(nil)
}

func TestAllRowsOfAMenu(t *testing.T) {
	last := []api.View{{Members: 15}, view(2, 0, 1, 2), view(2, 1, 2, 3), view(top, 0)}
	pending := []api.View{view(1, 3), view(2, 0, 1, 2), view(3, 0, 1), view(3, 0, 2), view(top, 1, 2)}
	m := menu(last, pending, 2)
	rows(m, 2, func(l []Record) {
		asked(t, l)
		for _, members := range []uint64{0, 1, 3, 6, 7, 13, 15, top} {
			may(t, members, l)
		}
	})
	for _, r := range menu(last, pending, 4) {
		for _, v := range append(slices.Clone(last), pending...) {
			changed(t, r, v)
		}
	}
	rows(menu(last[:3], pending[:4], 1), 3, func(l []Record) {
		asked(t, l)
		may(t, 3, l)
		may(t, 7, l)
	})
}

// holds: of all sets of the processes below n: what may be said of each two of them by P18.4 holds by these records.
func holds(t *testing.T, n int, l []Record) {
	t.Helper()
	var yes []uint64
	for s := range uint64(1) << n {
		if may(t, s, l) {
			yes = append(yes, s)
		}
	}
	for _, a := range yes {
		for _, b := range yes {
			if a&b == 0 {
				t.Fatalf("%v: both %b and %b may", l, a, b)
			}
		}
		for p := range n {
			if b := a | 1<<p; !slices.Contains(yes, b) {
				t.Fatalf("%v: %b may, %b mayn't", l, a, b)
			}
		}
		if b := a | 1<<63; !May(set.Set(b), l...) {
			t.Fatalf("%v: %b may, %b mayn't", l, a, b)
		}
	}
}

// P18.4.

func TestNoTwoSetsThatDontMeetMayAndMoreMembersDontHarm(t *testing.T) {
	var last, pending []api.View
	for s := range uint64(16) {
		last = append(last, api.View{Number: 2, Members: s})
		pending = append(pending, api.View{Number: 3 - s%3, Members: s})
	}
	for _, r := range menu(last, pending, 2) {
		holds(t, 5, []Record{r})
	}
	few := menu(views(last[7], last[14], view(1, 0, 1, 2, 3)), views(view(2, 1, 2), view(3, 0, 1, 4), view(4, 4)), 1)
	rows(few, 3, func(l []Record) { holds(t, 5, l) })
	for _, l := range [][]Record{nil, {{}}, {First(0)}, {First(1)}, {First(8)}, {First(9)}, {First(8), of(view(0, 1, 2))}} {
		holds(t, 8, l)
	}
}

// P18.1 to P18.4: rows that look like chance.

type turned uint64

func (r *turned) below(n int) int {
	*r = *r*6364136223846793005 + 1442695040888963407
	return int(uint64(*r) >> 33 % uint64(n))
}

// members: few of the first eight processes, or some of all, or most of all.
func (r *turned) members() uint64 {
	all := uint64(r.below(1<<30))<<34 ^ uint64(r.below(1<<30))<<15 ^ uint64(r.below(1<<30))
	switch r.below(3) {
	case 0:
		return all & 255
	case 1:
		return all | all>>7
	}
	return all
}

func (r *turned) view() api.View {
	v := api.View{Number: uint64(r.below(6)), Conf: api.Conf{Epoch: uint64(r.below(2)), Rep: r.below(2)}, Members: r.members()}
	switch r.below(12) {
	case 0:
		v.Number = top - v.Number
	case 1:
		v.Members = 7
	}
	return v
}

func (r *turned) record(pool []api.View) Record {
	out := Record{Last: pool[r.below(len(pool))]}
	for range r.below(2) * r.below(40) {
		out.Pending = append(out.Pending, pool[r.below(len(pool))])
	}
	return out
}

func TestRowsThatLookLikeChance(t *testing.T) {
	r := turned(1)
	yes := 0
	for range 3000 {
		pool := make([]api.View, 1+r.below(20))
		for i := range pool {
			pool[i] = r.view()
		}
		l := make([]Record, r.below(6))
		for i := range l {
			l[i] = r.record(pool)
		}
		asked(t, l)
		one := r.record(pool)
		changed(t, one, pool[0])
		var sets []uint64
		for range 4 {
			// One without anybody, and such as have most of a view of which there are many.
			s := r.members() | pool[r.below(len(pool))].Members | toldLast(l).Members&uint64(r.members())
			sets = append(sets, s, ^s, s&r.members())
		}
		for _, a := range sets {
			if !may(t, a, l) {
				continue
			}
			yes++
			for _, b := range sets {
				if may(t, b, l) && a&b == 0 || !may(t, a|b, l) {
					t.Fatalf("%v: %b %b", l, a, b)
				}
			}
		}
	}
	if yes < 3000 {
		t.Errorf("only %d sets may", yes)
	}
}

func TestOfAsManyAsThereMayBe(t *testing.T) {
	var l []Record
	for p := range 64 {
		r := of(view(1, p))
		for i := range 32 {
			r.Pending = append(r.Pending, api.View{Number: uint64(2 + i), Conf: api.Conf{Epoch: uint64(p)}, Members: top})
		}
		l = append(l, r)
	}
	if p := Pending(l...); len(p) != 2048 || p[0] != l[0].Pending[0] || p[2047] != l[63].Pending[31] {
		t.Error(len(p))
	}
	if Next(l...) != 34 || Last(l...) != view(1, 0) || !May(set.All(33), l...) || May(set.All(32), l...) {
		t.Error("as many as there may be")
	}
	if p := Pending(many(1 << 17)); len(p) != 1<<17-2 {
		t.Error(len(p))
	}
	if p := Pending(of(view(0), slices.Repeat(views(view(4)), 1<<17)...)); len(p) != 1 {
		t.Error(len(p))
	}
}

// P18.4: what it is for: processes that are parted again and again, and form views by it, form one chain.

// circle: some processes, and all views that anyone formed.
type circle struct {
	turned
	l      []Record
	formed []api.View
}

// attempt: those members tell each other what they have, write that they attempt a view, and form it if all did so; some stop ahead of either.
func (c *circle) attempt(t *testing.T, members uint64, epoch uint64) {
	var l []Record
	for p, r := range c.l {
		if members>>p&1 == 1 {
			l = append(l, r)
		}
	}
	if !may(t, members, l) {
		return
	}
	v := api.View{Number: Next(l...), Conf: api.Conf{Epoch: epoch, Rep: bits.TrailingZeros64(members)}, Members: members}
	all := true
	for p := range c.l {
		if members>>p&1 == 1 {
			r, ok := Add(c.l[p], v)
			if ok = ok && c.below(6) > 0; ok {
				c.l[p] = r
			}
			all = all && ok
		}
	}
	for p := range c.l {
		if all && members>>p&1 == 1 && c.below(3) > 0 {
			c.l[p] = Form(c.l[p], v)
			if !slices.Contains(c.formed, v) {
				c.formed = append(c.formed, v)
			}
		}
	}
}

func TestCirclesFormOneChain(t *testing.T) {
	views := 0
	for i := range 400 {
		c := &circle{turned: turned(i)}
		n := 2 + i%6
		for range n {
			c.l = append(c.l, First(n))
		}
		for e := range 60 {
			part := uint64(c.below(1 << n))
			for _, s := range []uint64{part, 1<<n - 1 - part} {
				c.attempt(t, s, uint64(e))
			}
		}
		was := First(n).Last
		for _, v := range c.formed {
			if v.Number <= was.Number || !most(v.Members, was.Members) {
				t.Fatalf("circle %d: %v behind %v", i, v, was)
			}
			was = v
		}
		views += len(c.formed)
	}
	if views < 2000 {
		t.Errorf("only %d views were formed", views)
	}
}

// The chapter's examples.

func TestExamples(t *testing.T) {
	r := First(3)
	if !May(set.Of(0, 1), r) || May(set.Of(2), r) {
		t.Error("by First(3)")
	}
	v := api.View{Number: Next(r), Conf: api.Conf{Epoch: 1}, Members: uint64(set.Of(0, 1))}
	r, ok := Add(r, v)
	if !ok || May(set.Of(1, 2), r) || !May(set.Of(0, 1), r) {
		t.Error("with {0 1} pending")
	}
	if r = Form(r, v); !alike(r, of(v)) || May(set.Of(1, 2), r) || Next(r) != 2 {
		t.Error("with {0 1} formed")
	}
}

// Nothing that was handed in or out shares memory with what was answered.

func TestWhatIsAnsweredIsOfItsOwnMemory(t *testing.T) {
	for n := range 40 {
		r := many(n)
		in := worth([]Record{r})[0]
		a, _ := Add(in, view(9))
		b, _ := Add(in, view(9))
		f := Form(in, view(0))
		p := Pending(in)
		scribble(in.Pending)
		want, _ := toldAdd(r, view(9))
		if !alike(a, want) || !alike(b, want) || !alike(f, toldForm(r, view(0))) || !slices.Equal(p, toldPending([]Record{r})) {
			t.Fatalf("%d: shared with what was handed in", n)
		}
		scribble(a.Pending)
		if !alike(b, want) || !alike(f, toldForm(r, view(0))) || !slices.Equal(p, toldPending([]Record{r})) {
			t.Fatalf("%d: shared with one another", n)
		}
		// What is put behind an answer isn't seen in another, nor in what was handed in.
		c, _ := Add(b, view(10))
		d, _ := Add(b, view(11))
		if len(c.Pending) < 32 && (c.Pending[n+1] != view(10) || d.Pending[n+1] != view(11)) {
			t.Fatalf("%d: shared behind its end", n)
		}
	}
}

// Ways.

func TestWays(t *testing.T) {
	f, err := parser.ParseFile(token.NewFileSet(), "vote.go", nil, 0)
	if err != nil {
		t.Fatal(err)
	}
	variadic := map[string]bool{}
	for _, d := range f.Decls {
		f, ok := d.(*ast.FuncDecl)
		if !ok {
			continue
		}
		for _, p := range f.Type.Params.List {
			if _, ok := p.Type.(*ast.Ellipsis); ok {
				variadic[f.Name.Name] = true
			}
		}
	}
	for _, name := range []string{"Last", "Pending", "May", "Next"} {
		if !variadic[name] {
			t.Errorf("%s isn't variadic", name)
		}
	}
}
