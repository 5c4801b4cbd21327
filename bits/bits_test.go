package bits_test

import (
	"math"
	"slices"
	"testing"

	"assent/api"
	"assent/bits"
)

// noCores are numbers of no core. Some are a core's, once their upper bits are cut off.
func noCores() []int {
	return []int{
		-1, -2, -3, -63, -64, -65, 64, 65, 67, 127, 128, 255, 256, 259, 1 << 16, 1 << 31, 1 << 32, 1<<32 + 3,
		1 << 40, 1<<62 + 1, -1 << 31, -1 << 32, math.MaxInt, math.MaxInt - 1, math.MinInt, math.MinInt + 1, math.MinInt + 3,
	}
}

// numbers are sets about every edge: none, all, each core alone, each one missing, runs from both ends, and mixed ones.
func numbers() []uint64 {
	out := []uint64{0, math.MaxUint64, 0x5555555555555555, 0xAAAAAAAAAAAAAAAA, 0x8000000000000001, 0xFFFFFFFF00000000}
	for c := range 64 {
		one := uint64(1) << c
		out = append(out, one, ^one, one-1, ^(one - 1))
	}
	mixed := uint64(1)
	for range 200 {
		mixed = mixed*6364136223846793005 + 1442695040888963407
		out = append(out, mixed)
	}
	return out
}

// members are a number's cores, by halving it, the lowest bit first.
func members(n uint64) [64]bool {
	var in [64]bool
	for c := range in {
		in[c] = n%2 == 1
		n /= 2
	}
	return in
}

// number is the number that has just these bits.
func number(in [64]bool) uint64 {
	var n uint64
	for c := 63; c >= 0; c-- {
		n *= 2
		if in[c] {
			n++
		}
	}
	return n
}

// listed are the cores of a number, rising.
func listed(n uint64) []int {
	var out []int
	for c, in := range members(n) {
		if in {
			out = append(out, c)
		}
	}
	return out
}

// wantSet asks that a set is that number, and is told as its cores by every call.
func wantSet(t *testing.T, what any, s bits.Set, n uint64) {
	t.Helper()
	if uint64(s) != n {
		t.Errorf("%v: %#x, not %#x", what, uint64(s), n)
	}
	want, first := listed(n), -1
	if len(want) > 0 {
		first = want[0]
	}
	if s.Count() != len(want) || s.First() != first || !slices.Equal(s.List(), want) {
		t.Errorf("%v: %#x is %d cores from %d, %v", what, n, s.Count(), s.First(), s.List())
	}
	for c, in := range members(n) {
		if s.Has(c) != in {
			t.Errorf("%v: %#x has %d: %v", what, n, c, s.Has(c))
		}
	}
}

// The chapter's table.
func TestRuns(t *testing.T) {
	s := bits.Of(3, 0, 64, 3)
	if uint64(s) != 9 || s.Count() != 2 || s.First() != 0 || !slices.Equal(s.List(), []int{0, 3}) {
		t.Error(uint64(s), s.Count(), s.First(), s.List())
	}
	if d := s.Drop(0); uint64(d) != 8 || d.Has(0) {
		t.Error(uint64(d), d.Has(0))
	}
}

// A set has room for every core that a machine may have, and for no more.
func TestRoom(t *testing.T) {
	if api.MaxCores != 64 || bits.Of(api.MaxCores-1) != 1<<63 || bits.Of(api.MaxCores) != 0 {
		t.Error(api.MaxCores, bits.Of(api.MaxCores-1), bits.Of(api.MaxCores))
	}
}

// P4.1: each core alone, and each two of them, in both orders and twice.
func TestOf(t *testing.T) {
	for c := range 64 {
		one := uint64(1) << c
		wantSet(t, c, bits.Of(c), one)
		wantSet(t, c, bits.Of(c, c), one)
		for d := range 64 {
			both := one | uint64(1)<<d
			for _, l := range [][]int{{c, d}, {d, c}, {c, d, c}, {d, d, c, c}} {
				if s := bits.Of(l...); uint64(s) != both {
					t.Errorf("Of(%v) is %#x", l, uint64(s))
				}
			}
		}
	}
}

// P4.1: no core at all, nil and empty lists, and all cores in three orders.
func TestOfEnds(t *testing.T) {
	wantSet(t, "nothing", bits.Of(), 0)
	wantSet(t, "nil", bits.Of(nil...), 0)
	wantSet(t, "empty", bits.Of([]int{}...), 0)
	var rising, falling, mixed []int
	for c := range 64 {
		rising = append(rising, c)
		falling = append(falling, 63-c)
		mixed = append(mixed, c*37%64)
	}
	wantSet(t, "rising", bits.Of(rising...), math.MaxUint64)
	wantSet(t, "falling", bits.Of(falling...), math.MaxUint64)
	wantSet(t, "mixed", bits.Of(mixed...), math.MaxUint64)
	wantSet(t, "twice", bits.Of(append(mixed, falling...)...), math.MaxUint64)
}

// P4.1: a set is the same whatever the order of its cores.
func TestOfAnyOrder(t *testing.T) {
	for _, n := range numbers() {
		l := listed(n)
		wantSet(t, "rising", bits.Of(l...), n)
		slices.Reverse(l)
		wantSet(t, "falling", bits.Of(l...), n)
		half := len(l) / 2
		wantSet(t, "turned", bits.Of(slices.Concat(l[half:], l[:half], l[half:])...), n)
	}
}

// P4.1: what is no core is passed by, ahead of cores, behind them and alone.
func TestOfNoCores(t *testing.T) {
	wantSet(t, "none is one", bits.Of(noCores()...), 0)
	for _, x := range noCores() {
		wantSet(t, x, bits.Of(x), 0)
		wantSet(t, x, bits.Of(x, 5, 0), 33)
		wantSet(t, x, bits.Of(5, x, 0, x), 33)
		wantSet(t, x, bits.Of(63, 0, x), 1<<63|1)
	}
}

// P4.1, R2: Of leaves what it is handed, its spare room too, and doesn't read that room.
func TestOfLeavesItsList(t *testing.T) {
	room := []int{9, -1, 3, 64, 3, 0, 17, math.MinInt, 40}
	was := slices.Clone(room)
	s := bits.Of(room[:6]...)
	wantSet(t, "a part", s, 1<<9|1<<3|1)
	wantSet(t, "an empty part", bits.Of(room[:0]...), 0)
	if !slices.Equal(room, was) {
		t.Errorf("the list is %v", room)
	}
	clear(room)
	wantSet(t, "behind a change of the list", s, 1<<9|1<<3|1)
}

// P4.1: Has asks the bit of each core, of any number.
func TestHas(t *testing.T) {
	for _, n := range numbers() {
		for c, in := range members(n) {
			if bits.Set(n).Has(c) != in {
				t.Errorf("%#x has %d, or has not", n, c)
			}
		}
	}
}

// P4.1: Add and Drop turn one bit and no other, whether or not the core is in; the set they are asked of stays.
func TestAddAndDrop(t *testing.T) {
	for _, n := range numbers() {
		s := bits.Set(n)
		for c := range 64 {
			with, without := members(n), members(n)
			with[c], without[c] = true, false
			added, dropped := s.Add(c), s.Drop(c)
			if uint64(added) != number(with) || !added.Has(c) || added.Add(c) != added {
				t.Errorf("%#x with %d is %#x", n, c, uint64(added))
			}
			if uint64(dropped) != number(without) || dropped.Has(c) || dropped.Drop(c) != dropped {
				t.Errorf("%#x without %d is %#x", n, c, uint64(dropped))
			}
			if added.Drop(c) != dropped || dropped.Add(c) != added {
				t.Errorf("%#x with and without %d", n, c)
			}
		}
		if uint64(s) != n {
			t.Errorf("%#x has become %#x", n, uint64(s))
		}
	}
}

// P4.1: of what is no core Has is false, and Add and Drop answer the set as it was.
func TestNoCores(t *testing.T) {
	for _, n := range numbers() {
		s := bits.Set(n)
		for _, x := range noCores() {
			if s.Has(x) || s.Add(x) != s || s.Drop(x) != s {
				t.Errorf("%#x, %d: %v, %#x, %#x", n, x, s.Has(x), uint64(s.Add(x)), uint64(s.Drop(x)))
			}
		}
	}
}

// P4.1: all cores come in one by one, and go in another order.
func TestOneByOne(t *testing.T) {
	var s bits.Set
	var in [64]bool
	for i := range 64 {
		c := i * 29 % 64
		s, in[c] = s.Add(c), true
		wantSet(t, c, s, number(in))
	}
	for i := range 64 {
		c := (i*45 + 7) % 64
		s, in[c] = s.Drop(c), false
		wantSet(t, c, s, number(in))
	}
	wantSet(t, "none left", s, 0)
}

// P4.2: Count, First and List of numbers that Of did not make.
func TestCountFirstList(t *testing.T) {
	for _, n := range numbers() {
		wantSet(t, "any number", bits.Set(n), n)
	}
}

// P4.2: the same at the ends, written out.
func TestCountFirstListEnds(t *testing.T) {
	for _, c := range []struct {
		n            uint64
		count, first int
		list         []int
	}{
		{0, 0, -1, nil},
		{1, 1, 0, []int{0}},
		{1 << 63, 1, 63, []int{63}},
		{1<<63 | 1, 2, 0, []int{0, 63}},
		{1<<63 | 1<<62, 2, 62, []int{62, 63}},
		{1<<32 | 1<<31, 2, 31, []int{31, 32}},
		{0x0100_0000_0000_0100, 2, 8, []int{8, 56}},
	} {
		s := bits.Set(c.n)
		if s.Count() != c.count || s.First() != c.first || !slices.Equal(s.List(), c.list) {
			t.Errorf("%#x: %d, %d, %v", c.n, s.Count(), s.First(), s.List())
		}
	}
	all := bits.Set(math.MaxUint64)
	if l := all.List(); all.Count() != 64 || all.First() != 0 || len(l) != 64 || l[0] != 0 || l[63] != 63 || !slices.IsSorted(l) {
		t.Error(all.Count(), all.First(), l)
	}
}

// P4.1, P4.2: what List tells is the set again.
func TestListAndBack(t *testing.T) {
	for _, n := range numbers() {
		if s := bits.Of(bits.Set(n).List()...); uint64(s) != n {
			t.Errorf("%#x comes back as %#x", n, uint64(s))
		}
	}
}

// P4.2, R2: List's answer is new memory each time, its spare room too.
func TestListIsNew(t *testing.T) {
	for _, n := range numbers() {
		s := bits.Set(n)
		one, two := s.List(), s.List()
		whole := two[:cap(two)]
		was := slices.Clone(whole)
		for i := range one[:cap(one)] {
			one[:cap(one)][i] = -7
		}
		if !slices.Equal(whole, was) || !slices.Equal(two, listed(n)) || !slices.Equal(s.List(), listed(n)) {
			t.Errorf("%#x: the answers share memory: %v, %v", n, two, s.List())
		}
	}
}
