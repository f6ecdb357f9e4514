package set

import (
	"math"
	"slices"
	"testing"
)

// strangers: numbers that are no process; some have the lowest bits of one.
func strangers() []int {
	return []int{-1, -2, -5, -63, -64, -65, math.MinInt32, math.MinInt, math.MinInt + 3, 64, 65, 99, 127, 128, 1 << 8, 1<<8 + 3, 1 << 16, math.MaxInt32, math.MaxInt/2 + 4, math.MaxInt - 1, math.MaxInt}
}

// edges: sets of all shapes: none, each alone, all below each, all but each, and mixed ones.
func edges() []Set {
	out := []Set{0, math.MaxUint64, 0x5555555555555555, 0xaaaaaaaaaaaaaaaa, 0xffffffff, 0xffffffff00000000, 0x0123456789abcdef, 0xfedcba9876543210, 1<<63 | 1}
	for p := range 64 {
		one := Set(1) << p
		out = append(out, one, one-1, ^one)
	}
	return out
}

// members: of s, by division: whether each process is one.
func members(s Set) [64]bool {
	var out [64]bool
	for p := range out {
		out[p] = s%2 == 1
		s /= 2
	}
	return out
}

// holds: whether just the members are those of which want says so.
func holds(s Set, want func(p int) bool) bool {
	for p, is := range members(s) {
		if is != want(p) {
			return false
		}
	}
	return true
}

// P2.1: Of.

func TestOfHasTheBitOfEachProcess(t *testing.T) {
	for _, x := range []struct {
		l    []int
		want Set
	}{
		{nil, 0}, {[]int{}, 0}, {[]int{0}, 1}, {[]int{1}, 2}, {[]int{63}, 1 << 63}, {[]int{0, 2, 99}, 5}, {[]int{2, 0}, 5},
		{[]int{5, 5, 5}, 32}, {[]int{0, 2, 2, 63}, 1<<63 | 5}, {[]int{31, 32, 33}, 7 << 31}, {[]int{-1, 3, 64}, 8},
	} {
		if got := Of(x.l...); got != x.want {
			t.Errorf("Of(%v) = %x, want %x", x.l, got, x.want)
		}
	}
	if Of() != 0 {
		t.Error("of none")
	}
	for p := range 64 {
		if got, want := Of(p), Set(math.Pow(2, float64(p))); got != want {
			t.Errorf("Of(%d) = %x, want %x", p, got, want)
		}
	}
}

func TestNumbersThatAreNoProcessPlayNoPart(t *testing.T) {
	if got := Of(strangers()...); got != 0 {
		t.Errorf("Of = %x", got)
	}
	for _, n := range strangers() {
		if Of(n) != 0 || Of(3, n, 60) != 1<<60|8 || Of(n, 3) != 8 {
			t.Errorf("Of with %d", n)
		}
		for _, s := range edges() {
			if s.Has(n) || s.With(n) != s || s.Less(n) != s {
				t.Errorf("%x: Has, With or Less of %d", s, n)
			}
		}
	}
}

func TestOfALongList(t *testing.T) {
	l := make([]int, 100000)
	for i := range l {
		l[i] = i%64*2 - 32 // those below 0, and those above 63, too
	}
	if got := Of(l...); got != 0x5555555555555555 {
		t.Errorf("%x", got)
	}
}

// P2.1: All.

func TestAllHasThoseBelowANumber(t *testing.T) {
	for n := range 65 {
		if !holds(All(n), func(p int) bool { return p < n }) {
			t.Errorf("All(%d) = %x", n, All(n))
		}
	}
	for _, n := range strangers() {
		want := Set(0)
		if n > 0 {
			want = math.MaxUint64
		}
		if got := All(n); got != want {
			t.Errorf("All(%d) = %x, want %x", n, got, want)
		}
	}
}

// P2.1: Has, With, Less.

func TestHas(t *testing.T) {
	for _, s := range edges() {
		if !holds(s, s.Has) {
			t.Errorf("%x", s)
		}
	}
}

func TestWithAndLessOfOne(t *testing.T) {
	for _, s := range edges() {
		was := members(s)
		for q := range 64 {
			if got := s.With(q); !holds(got, func(p int) bool { return was[p] || p == q }) {
				t.Errorf("%x.With(%d) = %x", s, q, got)
			}
			if got := s.Less(q); !holds(got, func(p int) bool { return was[p] && p != q }) {
				t.Errorf("%x.Less(%d) = %x", s, q, got)
			}
		}
		if s.With() != s || s.Less() != s || s.With(nil...) != s || s.Less(nil...) != s {
			t.Errorf("%x: with and without none", s)
		}
	}
}

func TestWithAndLessOfSome(t *testing.T) {
	l := []int{63, 99, 0, 7, -1, 7, 32, 64}
	in := func(p int) bool { return slices.Contains(l, p) }
	for _, s := range edges() {
		was := members(s)
		if got := s.With(l...); !holds(got, func(p int) bool { return was[p] || in(p) }) {
			t.Errorf("%x.With = %x", s, got)
		}
		if got := s.Less(l...); !holds(got, func(p int) bool { return was[p] && !in(p) }) {
			t.Errorf("%x.Less = %x", s, got)
		}
	}
	s := Of(1, 3, 5)
	if s.With(2, 99) != Of(1, 2, 3, 5) || s.Less(1, 2) != Of(3, 5) || s != Of(1, 3, 5) {
		t.Error("with some, without some")
	}
}

func TestWhatIsHandedInIsNotChanged(t *testing.T) {
	room := []int{9, 3, 99, -1, 3, 77, 5}
	was := slices.Clone(room)
	l := room[:4]
	one, other, third := Of(l...), Of(1).With(l...), All(64).Less(l...)
	if !slices.Equal(room, was) {
		t.Fatal("a list, or its spare room, was changed:", room)
	}
	for i := range room {
		room[i] = 20
	}
	if one != Of(3, 9) || other != Of(1, 3, 9) || third != All(64)&^Of(3, 9) {
		t.Error("an answer hangs on a list that it was not handed")
	}
}

// P2.1: Both, Any, But, In.

func TestTwoSets(t *testing.T) {
	for _, a := range edges() {
		x := members(a)
		for _, b := range edges() {
			y := members(b)
			if got := a.Both(b); !holds(got, func(p int) bool { return x[p] && y[p] }) {
				t.Errorf("%x.Both(%x) = %x", a, b, got)
			}
			if got := a.Any(b); !holds(got, func(p int) bool { return x[p] || y[p] }) {
				t.Errorf("%x.Any(%x) = %x", a, b, got)
			}
			if got := a.But(b); !holds(got, func(p int) bool { return x[p] && !y[p] }) {
				t.Errorf("%x.But(%x) = %x", a, b, got)
			}
			all := true
			for p := range 64 {
				all = all && (!x[p] || y[p])
			}
			if got := a.In(b); got != all {
				t.Errorf("%x.In(%x) = %v", a, b, got)
			}
		}
	}
}

func TestInOfNoneAndOfItself(t *testing.T) {
	none := Set(0)
	if !none.In(none) || !none.In(Of(4)) || Of(4).In(none) || !Of(4).In(Of(4)) || !Of(4).In(Of(4, 63)) || Of(4, 63).In(Of(4)) {
		t.Error("In")
	}
}

// P2.2: Size, Min, List.

func TestSizeMinAndList(t *testing.T) {
	for _, s := range edges() {
		var want []int
		for p, is := range members(s) {
			if is {
				want = append(want, p)
			}
		}
		if got := s.List(); !slices.Equal(got, want) {
			t.Errorf("%x: List %v, want %v", s, got, want)
		}
		if got := s.Size(); got != len(want) {
			t.Errorf("%x: Size %d, want %d", s, got, len(want))
		}
		least := -1
		if len(want) > 0 {
			least = want[0]
		}
		if got := s.Min(); got != least {
			t.Errorf("%x: Min %d, want %d", s, got, least)
		}
		if Of(s.List()...) != s {
			t.Errorf("%x isn't the set of its list", s)
		}
	}
}

func TestSizeMinAndListOfTheEdges(t *testing.T) {
	if none := Set(0); none.Size() != 0 || none.Min() != -1 || len(none.List()) != 0 {
		t.Error("of none:", none.Size(), none.Min(), none.List())
	}
	if all := All(64); all.Size() != 64 || all.Min() != 0 || len(all.List()) != 64 || all.List()[63] != 63 {
		t.Error("of all:", all.Size(), all.Min(), all.List())
	}
	if last := Of(63); last.Size() != 1 || last.Min() != 63 || !slices.Equal(last.List(), []int{63}) {
		t.Error("of the last one:", last.Size(), last.Min(), last.List())
	}
}

func TestListIsNewMemory(t *testing.T) {
	s := Of(1, 3, 5)
	one, other := s.List(), s.List()
	_ = append(one, 7)
	for i := range one {
		one[i] = 9
	}
	if !slices.Equal(other, []int{1, 3, 5}) || !slices.Equal(s.List(), []int{1, 3, 5}) {
		t.Error("two lists share memory:", other, s.List())
	}
}

// P2.2: Most.

func TestMost(t *testing.T) {
	for _, x := range []struct {
		s, t Set
		want bool
	}{
		{0, 0, false}, {Of(1), 0, false}, {All(64), 0, false}, {0, Of(1), false}, {0, All(64), false},
		{Of(1), Of(1), true}, {Of(1), Of(2), false}, {Of(1), Of(1, 2), false}, {Of(1, 2), Of(1, 2), true},
		{Of(1, 2), Of(1, 2, 3), true}, {Of(1), Of(1, 2, 3), false}, {Of(1, 2), Of(1, 2, 3, 4), false}, {Of(1, 2, 3), Of(1, 2, 3, 4), true},
		{Of(1, 2), Of(1, 2, 3, 4, 5), false}, {Of(1, 2, 3), Of(1, 2, 3, 4, 5), true},
		{Of(5, 6, 7), Of(1), false}, {Of(1, 5, 6, 7), Of(1, 2), false}, {Of(1, 5, 6, 7), Of(1, 2, 3), false}, {All(64).Less(1), Of(1), false},
		{Of(63), Of(63), true}, {Of(62, 63), Of(0, 62, 63), true}, {All(64), Of(0, 63), true},
		{All(33), All(64), true}, {All(32), All(64), false}, {All(32), All(63), true}, {All(31), All(63), false}, {All(64), All(64), true},
	} {
		if got := x.s.Most(x.t); got != x.want {
			t.Errorf("%x.Most(%x) = %v", x.s, x.t, got)
		}
	}
}

func TestMostIsMoreThanHalf(t *testing.T) {
	for _, a := range edges() {
		for _, b := range edges() {
			in, out := 0, 0
			x, y := members(a), members(b)
			for p := range 64 {
				if y[p] && x[p] {
					in++
				} else if y[p] {
					out++
				}
			}
			if got := a.Most(b); got != (in > out) {
				t.Errorf("%x.Most(%x) = %v: %d in, %d out", a, b, got, in, out)
			}
		}
	}
}

// P2.3: two that have most of a third one.

// meet: two sets that each have most of t have one of it in common.
func meet(t *testing.T, a, b, of Set) {
	t.Helper()
	if a.Most(of) && b.Most(of) && a&b&of == 0 {
		t.Errorf("%x and %x have most of %x each, and none of it in common", a, b, of)
	}
}

func TestTwoThatHaveMostMeet(t *testing.T) {
	places := []int{0, 1, 31, 32, 62, 63}
	var small []Set
	for i := range 1 << len(places) {
		var s Set
		for j, p := range places {
			if i>>j&1 == 1 {
				s |= 1 << p
			}
		}
		small = append(small, s)
	}
	for _, a := range small {
		for _, b := range small {
			for _, of := range small {
				meet(t, a, b, of)
			}
		}
	}
}

func TestHalvesOfAnyOneDontBothHaveMost(t *testing.T) {
	for n := range 65 {
		of := All(n)
		for k := range n + 1 {
			a, b := All(k), of&^All(k)
			meet(t, a, b, of)
			meet(t, ^b, ^a, of) // what isn't of it counts for neither
			if got, want := a.Most(of) || b.Most(of), n%2 == 1 || 2*k != n; got != want {
				t.Errorf("of %d: the first %d or the others have most: %v", n, k, got)
			}
		}
	}
}

func TestNobodyHasMostOfNone(t *testing.T) {
	for _, a := range edges() {
		if a.Most(0) {
			t.Errorf("%x has most of none", a)
		}
		for _, b := range edges() {
			meet(t, a, b, 0)
		}
	}
}
