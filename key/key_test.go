package key

import (
	"fmt"
	"math"
	"reflect"
	"slices"
	"testing"

	"consort/api"
)

// firsts: stamps and epochs, rising, with the edges of what 32, 63 and 64 bits hold.
func firsts() []uint64 {
	return []uint64{0, 1, 2, 3, 255, 256, math.MaxInt32, math.MaxInt32 + 1, math.MaxUint32, math.MaxUint32 + 1, math.MaxUint32 + 2, math.MaxInt64, 1 << 63, 1<<63 + 1, math.MaxUint64 - 1, math.MaxUint64}
}

// seconds: senders and representatives, rising; those that are no process are numbers, too.
func seconds() []int {
	return []int{math.MinInt, math.MinInt + 1, math.MinInt32, -64, -1, 0, 1, 2, 62, 63, 64, 256, math.MaxInt32, math.MaxInt32 + 1, math.MaxInt - 1, math.MaxInt}
}

// keys: of all firsts and seconds, rising.
func keys() []api.Key {
	var out []api.Key
	for _, n := range firsts() {
		for _, p := range seconds() {
			out = append(out, api.Key{Stamp: n, From: p})
		}
	}
	return out
}

// confs: of all firsts and seconds, rising.
func confs() []api.Conf {
	var out []api.Conf
	for _, k := range keys() {
		out = append(out, api.Conf{Epoch: k.Stamp, Rep: k.From})
	}
	return out
}

// mixed: the numbers below n, each once, in an order of no sense; n is no multiple of the prime 7919.
func mixed(n int) []int {
	out := make([]int, n)
	for i := range out {
		out[i] = i * 7919 % n
	}
	return out
}

// full: a message of the key {stamp from}, all of whose fields tell i.
func full(stamp uint64, from, i int) api.Message {
	return api.Message{From: from, Seq: uint32(i + 1), Stamp: stamp, Service: i%2 + 1, Deps: []uint32{uint32(i), 7, 9}, Payload: fmt.Sprint("message ", i)}
}

// same: whether a and b have the same messages, with all that is in them.
func same(a, b []api.Message) bool {
	return len(a) == len(b) && (len(a) == 0 || reflect.DeepEqual(a, b))
}

// copied: l, and what is in its messages, in memory of their own.
func copied(l []api.Message) []api.Message {
	out := slices.Clone(l)
	for i := range out {
		out[i].Deps = slices.Clone(out[i].Deps)
	}
	return out
}

// P3.1: Compare, Confs.

func TestKeysComeInTheOrderOfStampsThenOfSenders(t *testing.T) {
	for _, x := range []struct {
		a, b api.Key
		want int
	}{
		{api.Key{Stamp: 3, From: 1}, api.Key{Stamp: 3, From: 2}, -1},
		{api.Key{Stamp: 3, From: 1}, api.Key{Stamp: 4, From: 0}, -1},
		{api.Key{Stamp: 4, From: 0}, api.Key{Stamp: 3, From: 63}, 1},
		{api.Key{Stamp: 3, From: 2}, api.Key{Stamp: 3, From: 1}, 1},
		{api.Key{Stamp: 3, From: 1}, api.Key{Stamp: 3, From: 1}, 0},
		{api.Key{}, api.Key{}, 0},
		{api.Key{}, api.Key{From: 1}, -1},
		{api.Key{}, api.Key{Stamp: 1}, -1},
		{api.Key{From: -1}, api.Key{}, -1},
		{api.Key{Stamp: 1, From: -1}, api.Key{}, 1},
	} {
		if got := Compare(x.a, x.b); got != x.want {
			t.Errorf("Compare(%v, %v) = %d, want %d", x.a, x.b, got, x.want)
		}
	}
}

func TestConfigurationsComeInTheOrderOfEpochsThenOfRepresentatives(t *testing.T) {
	for _, x := range []struct {
		a, b api.Conf
		want int
	}{
		{api.Conf{Epoch: 3, Rep: 1}, api.Conf{Epoch: 3, Rep: 2}, -1},
		{api.Conf{Epoch: 3, Rep: 1}, api.Conf{Epoch: 4, Rep: 0}, -1},
		{api.Conf{Epoch: 4, Rep: 0}, api.Conf{Epoch: 3, Rep: 63}, 1},
		{api.Conf{Epoch: 3, Rep: 2}, api.Conf{Epoch: 3, Rep: 1}, 1},
		{api.Conf{Epoch: 3, Rep: 1}, api.Conf{Epoch: 3, Rep: 1}, 0},
		{api.Conf{}, api.Conf{}, 0},
		{api.Conf{}, api.Conf{Rep: 1}, -1},
		{api.Conf{}, api.Conf{Epoch: 1}, -1},
		{api.Conf{Rep: -1}, api.Conf{}, -1},
		{api.Conf{Epoch: 1, Rep: -1}, api.Conf{}, 1},
	} {
		if got := Confs(x.a, x.b); got != x.want {
			t.Errorf("Confs(%v, %v) = %d, want %d", x.a, x.b, got, x.want)
		}
	}
}

// risesWith: whether compare tells of each two of l which one stands ahead; l rises.
func risesWith[T any](t *testing.T, l []T, compare func(a, b T) int) {
	t.Helper()
	for i, a := range l {
		for k, b := range l {
			want := 0
			if i < k {
				want = -1
			} else if i > k {
				want = 1
			}
			if got := compare(a, b); got != want {
				t.Fatalf("%v against %v: %d, want %d", a, b, got, want)
			}
		}
	}
}

func TestCompareAndConfsOfNumbersOfAllSizes(t *testing.T) {
	risesWith(t, keys(), Compare)
	risesWith(t, confs(), Confs)
}

// P3.1: Of.

func TestOfIsStampAndSender(t *testing.T) {
	for i, k := range keys() {
		if got := Of(full(k.Stamp, k.From, i)); got != k {
			t.Fatalf("Of = %v, want %v", got, k)
		}
		if got := Of(api.Message{Stamp: k.Stamp, From: k.From}); got != k {
			t.Fatalf("Of = %v, want %v", got, k)
		}
	}
	if Of(api.Message{}) != (api.Key{}) || Of(api.Message{Seq: 9, Service: api.Safe, Deps: []uint32{4}, Payload: "a"}) != (api.Key{}) {
		t.Error("a field beside Stamp and From plays a part")
	}
}

// P3.1: Last, Newest.

// findsTheLast: whether last finds the last one of the front of l, of each length, wherever it stands; l rises.
func findsTheLast[T comparable](t *testing.T, l []T, last func(l ...T) T) {
	t.Helper()
	for n := 1; n <= len(l); n++ {
		want := l[n-1]
		front := slices.Clone(l[:n])
		back := slices.Clone(front)
		slices.Reverse(back)
		half := slices.Concat(front[n/2:], front[:n/2])
		twice := slices.Concat(back, front, back)
		for _, x := range [][]T{front, back, half, twice} {
			if got := last(x...); got != want {
				t.Fatalf("of %d: %v, want %v", len(x), got, want)
			}
		}
		if got := last(want); got != want {
			t.Fatalf("of one: %v, want %v", got, want)
		}
		if got := last(want, want, want); got != want {
			t.Fatalf("of one that comes again: %v, want %v", got, want)
		}
	}
	for i, a := range l {
		for _, b := range l[i:] {
			if last(a, b) != b || last(b, a) != b {
				t.Fatalf("of %v and %v: %v, %v", a, b, last(a, b), last(b, a))
			}
		}
	}
}

func TestLastAndNewest(t *testing.T) {
	findsTheLast(t, keys(), Last)
	findsTheLast(t, confs(), Newest)
	if got := Last(api.Key{Stamp: 2, From: 9}, api.Key{Stamp: 3, From: 1}, api.Key{Stamp: 3}); got != (api.Key{Stamp: 3, From: 1}) {
		t.Error("Last:", got)
	}
	if got := Newest(api.Conf{Epoch: 2, Rep: 9}, api.Conf{Epoch: 3, Rep: 1}, api.Conf{Epoch: 3}); got != (api.Conf{Epoch: 3, Rep: 1}) {
		t.Error("Newest:", got)
	}
}

func TestLastAndNewestOfAnEmptyList(t *testing.T) {
	if Last() != (api.Key{}) || Last(nil...) != (api.Key{}) || Last([]api.Key{}...) != (api.Key{}) {
		t.Error("Last of none:", Last())
	}
	if Newest() != (api.Conf{}) || Newest(nil...) != (api.Conf{}) || Newest([]api.Conf{}...) != (api.Conf{}) {
		t.Error("Newest of none:", Newest())
	}
}

func TestTheZeroOnePlaysNoPartWhereItIsntInTheList(t *testing.T) {
	if got := Last(api.Key{From: -3}, api.Key{From: -2}, api.Key{From: -5}); got != (api.Key{From: -2}) {
		t.Error("Last:", got)
	}
	if got := Newest(api.Conf{Rep: -3}, api.Conf{Rep: -2}, api.Conf{Rep: -5}); got != (api.Conf{Rep: -2}) {
		t.Error("Newest:", got)
	}
	if got := Last(api.Key{From: -3}, api.Key{}, api.Key{From: -2}); got != (api.Key{}) {
		t.Error("Last, of a list with the zero one:", got)
	}
	if got := Newest(api.Conf{Rep: -3}, api.Conf{}, api.Conf{Rep: -2}); got != (api.Conf{}) {
		t.Error("Newest, of a list with the zero one:", got)
	}
}

// P3.1: Above.

func TestAbove(t *testing.T) {
	const top = math.MaxUint64
	for _, x := range []struct {
		l    []uint64
		want uint64
	}{
		{nil, 1}, {[]uint64{}, 1}, {[]uint64{0}, 1}, {[]uint64{0, 0}, 1}, {[]uint64{1}, 2}, {[]uint64{5, 2}, 6}, {[]uint64{2, 5}, 6}, {[]uint64{3, 9, 4}, 10}, {[]uint64{9, 9, 9}, 10}, {[]uint64{0, 7, 0}, 8},
		{[]uint64{math.MaxUint32}, 1 << 32}, {[]uint64{math.MaxInt64}, 1 << 63}, {[]uint64{1, 1 << 63, 2}, 1<<63 + 1}, {[]uint64{1<<32 + 5, 6}, 1<<32 + 6},
		{[]uint64{top - 2}, top - 1}, {[]uint64{top - 1}, top}, {[]uint64{top}, top}, {[]uint64{top, top}, top}, {[]uint64{top, 0}, top}, {[]uint64{0, top}, top}, {[]uint64{top - 1, 5}, top}, {[]uint64{top - 1, top, top - 2}, top},
	} {
		if got := Above(x.l...); got != x.want {
			t.Errorf("Above(%v) = %d, want %d", x.l, got, x.want)
		}
	}
	if Above() != 1 {
		t.Error("of none:", Above())
	}
}

func TestAboveOfTwoNumbersOfAllSizes(t *testing.T) {
	l := firsts()
	for i, a := range l {
		for _, b := range l[i:] {
			want := b
			if b < math.MaxUint64 {
				want++
			}
			if Above(a, b) != want || Above(b, a) != want {
				t.Errorf("of %d and %d: %d, %d", a, b, Above(a, b), Above(b, a))
			}
		}
	}
}

// P3.2: Sort.

func TestSort(t *testing.T) {
	a, b, c, d, e := full(2, 1, 0), full(1, 5, 1), full(2, 0, 2), full(2, 1, 3), full(3, -1, 4)
	for _, x := range []struct{ l, want []api.Message }{
		{nil, nil}, {[]api.Message{}, nil}, {[]api.Message{a}, []api.Message{a}}, {[]api.Message{a, b}, []api.Message{b, a}}, {[]api.Message{b, a}, []api.Message{b, a}},
		{[]api.Message{a, b, c, d, e}, []api.Message{b, c, a, d, e}},
		{[]api.Message{e, d, c, b, a}, []api.Message{b, c, d, a, e}},
		{[]api.Message{d, e, a, d}, []api.Message{d, a, d, e}},
		{[]api.Message{{Stamp: 1}, {}, {From: -1}}, []api.Message{{From: -1}, {}, {Stamp: 1}}},
	} {
		if got := Sort(x.l); !same(got, x.want) {
			t.Errorf("Sort(%v) = %v, want %v", x.l, got, x.want)
		}
	}
}

func TestSortOfKeysOfAllSizes(t *testing.T) {
	const n = 257 // one more than there are keys
	l := keys()
	if len(l) != n-1 {
		t.Fatal(len(l), "keys")
	}
	l = append(l, l[n-2])
	var in, want []api.Message
	for _, i := range mixed(n) {
		in = append(in, full(l[i].Stamp, l[i].From, min(i, n-2)))
	}
	for i, k := range l {
		want = append(want, full(k.Stamp, k.From, min(i, n-2)))
	}
	if same(in, want) || !same(Sort(in), want) || !same(Sort(want), want) {
		t.Error("not in the order of their keys")
	}
	slices.Reverse(in)
	if !same(Sort(in), want) {
		t.Error("backwards: not in the order of their keys")
	}
}

func TestMessagesOfOneKeyStayAsTheyStand(t *testing.T) {
	for _, n := range []int{2, 3, 5, 11, 13, 23, 101, 997, 5003} {
		for _, groups := range []int{1, 2, 3, 7} {
			in := make([]api.Message, n)
			for i, x := range mixed(n) {
				g := x % groups
				// Seq, Payload and Deps fall, while i rises: none of them may play a part.
				in[i] = full(uint64(g/2), g%2, n-i)
			}
			var want []api.Message
			for g := range groups {
				for _, m := range in {
					if m.Stamp == uint64(g/2) && m.From == g%2 {
						want = append(want, m)
					}
				}
			}
			if !same(Sort(in), want) {
				t.Errorf("%d messages of %d keys: not as they stood", n, groups)
			}
		}
	}
}

func TestSortLeavesWhatIsHandedIn(t *testing.T) {
	var room []api.Message
	for i := range 40 {
		room = append(room, full(uint64(50-i)/3, 9-i%4, i))
	}
	was := copied(room)
	for _, n := range []int{0, 1, 2, 30, 40} {
		out := Sort(room[:n])
		if !same(room, was) {
			t.Fatalf("%d of 40: a list, or its spare room, was changed", n)
		}
		for i := range out {
			out[i] = api.Message{Payload: "!"}
		}
		_ = append(out, api.Message{Payload: "!"})
		if !same(room, was) {
			t.Fatalf("%d of 40: the answer shares memory with what was handed in", n)
		}
	}
}

func TestTwoAnswersOfSortShareNoMemory(t *testing.T) {
	in := []api.Message{full(2, 0, 0), full(1, 0, 1)}
	one, other := Sort(in), Sort(in)
	want := copied(other)
	one[0], one[1] = api.Message{}, api.Message{}
	_ = append(one, api.Message{})
	in[0], in[1] = api.Message{}, api.Message{}
	if !same(other, want) {
		t.Error("an answer changed:", other)
	}
}

func TestListsOfLastNewestAndAboveAreLeft(t *testing.T) {
	k, c, n := []api.Key{{Stamp: 2}, {Stamp: 3}, {Stamp: 1}, {Stamp: 9}}, []api.Conf{{Epoch: 2}, {Epoch: 3}, {Epoch: 1}, {Epoch: 9}}, []uint64{2, 3, 1, 9}
	if Last(k[:3]...) != k[1] || Newest(c[:3]...) != c[1] || Above(n[:3]...) != 4 {
		t.Error("a list's spare room plays a part")
	}
	if !slices.Equal(k, []api.Key{{Stamp: 2}, {Stamp: 3}, {Stamp: 1}, {Stamp: 9}}) || !slices.Equal(c, []api.Conf{{Epoch: 2}, {Epoch: 3}, {Epoch: 1}, {Epoch: 9}}) || !slices.Equal(n, []uint64{2, 3, 1, 9}) {
		t.Error("a list, or its spare room, was changed:", k, c, n)
	}
}

// P3.3: these are orders.

// ordered: whether of each two of l that aren't one, one comes ahead, and whether what comes ahead of what comes ahead does, too.
func ordered[T comparable](t *testing.T, l []T, compare func(a, b T) int) {
	t.Helper()
	for _, a := range l {
		for _, b := range l {
			x, y := compare(a, b), compare(b, a)
			if x != -y || (x == 0) != (a == b) || x < -1 || x > 1 {
				t.Fatalf("%v and %v: %d one way, %d the other", a, b, x, y)
			}
			if x >= 0 {
				continue
			}
			for _, c := range l {
				if compare(b, c) < 0 && compare(a, c) >= 0 {
					t.Fatalf("%v comes ahead of %v, and that of %v, but not the first of the last", a, b, c)
				}
			}
		}
	}
}

func TestTheseAreOrders(t *testing.T) {
	ordered(t, keys(), Compare)
	ordered(t, confs(), Confs)
}

func TestSortLastAndCompareTellOfOneOrder(t *testing.T) {
	var in []api.Message
	l := keys()
	for _, i := range mixed(251) {
		in = append(in, full(l[i].Stamp, l[i].From, i))
	}
	out := Sort(in)
	var seen []api.Key
	for i, m := range out {
		if i > 0 && Compare(Of(out[i-1]), Of(m)) != -1 {
			t.Fatal("out of the order of Compare:", Of(out[i-1]), Of(m))
		}
		seen = append(seen, Of(m))
		if Last(seen...) != Of(m) {
			t.Fatal("out of the order of Last:", Of(m))
		}
	}
	if len(out) != len(in) {
		t.Error(len(out), "messages of", len(in))
	}
}
