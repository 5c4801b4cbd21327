package plru_test

import (
	"math"
	"testing"

	"assent/api"
	"assent/plru"
)

// rightWays are the numbers of ways that a set may have.
func rightWays() []int { return []int{1, 2, 4, 8} }

// wrongWays are numbers of ways that can't be: none, below none, no powers of
// two, powers past the most; some are right ones, once their upper bits are cut off.
func wrongWays() []int {
	out := []int{
		0, 3, 5, 6, 7, api.MaxWays + 1, 10, 12, 15, 16, 17, 32, 64, 128, 255, 256, 257, 258, 260, 264,
		1 << 16, 1<<16 + 4, 1 << 31, 1<<31 + 8, 1 << 32, 1<<32 + 1, 1<<32 + 2, 1<<32 + 4, 1<<32 + 8, 1 << 62,
		math.MaxInt, math.MaxInt - 1, math.MinInt, math.MinInt + 1, math.MinInt + 2, math.MinInt + 4, math.MinInt + 8,
	}
	for n := -1; n >= -20; n-- {
		out = append(out, n)
	}
	return append(out, -64, -256, -252, -1<<31, -1<<32, -1<<62)
}

// noWays are numbers of no way, of a set of that many.
func noWays(ways int) []int {
	return []int{
		-1, -2, -3, -4, -7, -8, -9, -ways, ways, ways + 1, 2 * ways, 3*ways - 1, 8, 9, 15, 16, 255, 256, 257,
		1 << 31, 1 << 32, 1<<32 + 1, 1 << 62, -1 << 31, -1 << 32, math.MaxInt, math.MaxInt - 1, math.MinInt, math.MinInt + 1,
	}
}

// turn is a node that is over a way, and whether the way stands in its second half.
type turn struct {
	node   int
	second bool
}

// down are the nodes over a way, from node 1 on, by halving the ways first to last as the chapter says.
func down(node, first, last, way int) []turn {
	if first == last {
		return nil
	}
	middle := first + (last-first+1)/2
	if way < middle {
		return append([]turn{{node, false}}, down(2*node, first, middle-1, way)...)
	}
	return append([]turn{{node, true}}, down(2*node+1, middle, last, way)...)
}

// points is whether a node's bit is 1: the bits are halved, the lowest first.
func points(bits, node int) bool {
	for range node - 1 {
		bits /= 2
	}
	return bits%2 == 1
}

// touched is bits, of which each node over way points to the other half.
func touched(bits, ways, way int) int {
	for _, t := range down(1, 0, ways-1, way) {
		weight := 1
		for range t.node - 1 {
			weight *= 2
		}
		switch {
		case t.second && points(bits, t.node):
			bits -= weight
		case !t.second && !points(bits, t.node):
			bits += weight
		}
	}
	return bits
}

// pointed is whether each node over way points to the half in which it stands.
func pointed(bits, ways, way int) bool {
	for _, t := range down(1, 0, ways-1, way) {
		if points(bits, t.node) != t.second {
			return false
		}
	}
	return true
}

// The chapter's table.
func TestRuns(t *testing.T) {
	if b := plru.Touch(0, 4, 0); b != 3 {
		t.Error(b)
	}
	if v := plru.Victim(3, 4); v != 2 {
		t.Error(v)
	}
	if b := plru.Touch(3, 4, 2); b != 6 {
		t.Error(b)
	}
	if v := plru.Victim(6, 4); v != 1 {
		t.Error(v)
	}
}

// A tree has a bit for each node of the most ways, and they are a power of two.
func TestRoom(t *testing.T) {
	if api.MaxWays != 8 || plru.Victim(0, api.MaxWays) != 0 || plru.Victim(math.MaxUint8, api.MaxWays) != api.MaxWays-1 {
		t.Error(api.MaxWays, plru.Victim(0, api.MaxWays), plru.Victim(math.MaxUint8, api.MaxWays))
	}
}

// P5.1, P5.2: ways that can't be: Touch answers bits, whatever they and the way are.
func TestTouchWrongWays(t *testing.T) {
	for _, ways := range wrongWays() {
		for b := range 256 {
			for _, way := range []int{0, 1, 2, 3, 7, 8, -1, ways - 1, ways, ways / 2, math.MaxInt, math.MinInt} {
				if got := plru.Touch(uint8(b), ways, way); int(got) != b {
					t.Errorf("Touch(%#x, %d, %d) is %#x", b, ways, way, got)
				}
			}
		}
	}
}

// P5.1, P5.2: a way that can't be: Touch answers bits.
func TestTouchWrongWay(t *testing.T) {
	for _, ways := range rightWays() {
		for _, way := range noWays(ways) {
			if way >= 0 && way < ways {
				continue
			}
			for b := range 256 {
				if got := plru.Touch(uint8(b), ways, way); int(got) != b {
					t.Errorf("Touch(%#x, %d, %d) is %#x", b, ways, way, got)
				}
			}
		}
	}
}

// P5.1, P5.3: ways that can't be: Victim answers -1.
func TestVictimWrongWays(t *testing.T) {
	for _, ways := range wrongWays() {
		for b := range 256 {
			if v := plru.Victim(uint8(b), ways); v != -1 {
				t.Errorf("Victim(%#x, %d) is %d", b, ways, v)
			}
		}
	}
}

// P5.1: of the numbers about the limits, just the powers of two from 1 to MaxWays can be.
func TestWhichWaysCanBe(t *testing.T) {
	for ways := -300; ways <= 300; ways++ {
		victim, bits := -1, uint8(0)
		switch ways {
		case 1:
			victim, bits = 0, 0
		case 2:
			victim, bits = 0, 1
		case 4:
			victim, bits = 0, 3
		case 8:
			victim, bits = 0, 11
		}
		if v, b := plru.Victim(0, ways), plru.Touch(0, ways, 0); v != victim || b != bits {
			t.Errorf("%d ways: victim %d, bits %#x", ways, v, b)
		}
	}
}

// P5.2: each number of bits, each way.
func TestTouch(t *testing.T) {
	for _, ways := range rightWays() {
		for b := range 256 {
			for way := range ways {
				got := plru.Touch(uint8(b), ways, way)
				if want := touched(b, ways, way); int(got) != want {
					t.Errorf("Touch(%#x, %d, %d) is %#x, not %#x", b, ways, way, got, want)
				}
				if again := plru.Touch(got, ways, way); again != got {
					t.Errorf("Touch(%#x, %d, %d), once more, is %#x", got, ways, way, again)
				}
			}
		}
	}
}

// P5.2: all bits 0 and all bits 1, written out way by way.
func TestTouchEnds(t *testing.T) {
	for _, c := range []struct {
		ways       int
		none, full []uint8
	}{
		{1, []uint8{0}, []uint8{0xff}},
		{2, []uint8{1, 0}, []uint8{0xff, 0xfe}},
		{4, []uint8{3, 1, 4, 0}, []uint8{0xff, 0xfd, 0xfe, 0xfa}},
		{8, []uint8{0x0b, 0x03, 0x11, 0x01, 0x24, 0x04, 0x40, 0x00}, []uint8{0xff, 0xf7, 0xfd, 0xed, 0xfe, 0xde, 0xfa, 0xba}},
	} {
		for way := range c.ways {
			none, full := plru.Touch(0, c.ways, way), plru.Touch(0xff, c.ways, way)
			if none != c.none[way] || full != c.full[way] {
				t.Errorf("%d of %d: %#x, %#x", way, c.ways, none, full)
			}
		}
	}
}

// P5.2: bits of nodes that aren't over the way, and bits that stand for no node, stay as they are.
func TestTouchLeavesTheRest(t *testing.T) {
	for _, ways := range rightWays() {
		for way := range ways {
			over := 0
			for _, n := range down(1, 0, ways-1, way) {
				over |= 1 << (n.node - 1)
			}
			for b := range 256 {
				got := int(plru.Touch(uint8(b), ways, way))
				if got&^over != b&^over {
					t.Errorf("Touch(%#x, %d, %d) is %#x", b, ways, way, got)
				}
				if nodes := ways - 1; got>>nodes != b>>nodes {
					t.Errorf("Touch(%#x, %d, %d) is %#x: no node has that bit", b, ways, way, got)
				}
			}
		}
	}
}

// P5.3: each number of bits: the one way to which all nodes over it point.
func TestVictim(t *testing.T) {
	for _, ways := range rightWays() {
		for b := range 256 {
			v, found := plru.Victim(uint8(b), ways), 0
			for way := range ways {
				if pointed(b, ways, way) {
					found++
					if v != way {
						t.Errorf("Victim(%#x, %d) is %d, not %d", b, ways, v, way)
					}
				}
			}
			if found != 1 {
				t.Errorf("the nodes of %#x point to %d of %d ways", b, found, ways)
			}
		}
	}
}

// P5.3: all bits 0, all bits 1, and each node alone.
func TestVictimEnds(t *testing.T) {
	for _, c := range []struct {
		ways       int
		none, full int
		alone      [8]int
	}{
		{1, 0, 0, [8]int{0, 0, 0, 0, 0, 0, 0, 0}},
		{2, 0, 1, [8]int{1, 0, 0, 0, 0, 0, 0, 0}},
		{4, 0, 3, [8]int{2, 1, 0, 0, 0, 0, 0, 0}},
		{8, 0, 7, [8]int{4, 2, 0, 1, 0, 0, 0, 0}},
	} {
		if n, f := plru.Victim(0, c.ways), plru.Victim(0xff, c.ways); n != c.none || f != c.full {
			t.Errorf("%d ways: %d, %d", c.ways, n, f)
		}
		for i, want := range c.alone {
			if v := plru.Victim(1<<i, c.ways); v != want {
				t.Errorf("Victim(%#x, %d) is %d", 1<<i, c.ways, v)
			}
		}
	}
}

// P5.3: bits that stand for no node don't lead to another way.
func TestVictimPassesTheRest(t *testing.T) {
	for _, ways := range rightWays() {
		for b := range 256 {
			nodes := b % (1 << (ways - 1))
			if v, w := plru.Victim(uint8(b), ways), plru.Victim(uint8(nodes), ways); v != w {
				t.Errorf("Victim(%#x, %d) is %d, of %#x %d", b, ways, v, nodes, w)
			}
		}
	}
}

// P5.2, P5.3: one way: nothing to be turned, and it goes.
func TestOneWay(t *testing.T) {
	for b := range 256 {
		if got := plru.Touch(uint8(b), 1, 0); int(got) != b {
			t.Errorf("Touch(%#x, 1, 0) is %#x", b, got)
		}
		if v := plru.Victim(uint8(b), 1); v != 0 {
			t.Errorf("Victim(%#x, 1) is %d", b, v)
		}
	}
}

// P5.4: the way that was touched last isn't the victim; it stands in the other half.
func TestLastTouchedStays(t *testing.T) {
	for _, ways := range rightWays()[1:] {
		for b := range 256 {
			for way := range ways {
				v := plru.Victim(plru.Touch(uint8(b), ways, way), ways)
				if v == way || v < 0 || v >= ways || v < ways/2 == (way < ways/2) {
					t.Errorf("%#x: behind %d of %d the victim is %d", b, way, ways, v)
				}
			}
		}
	}
}

// P5.4: touching each victim goes through all ways, round after round; a round brings the bits back.
func TestVictimsInTurn(t *testing.T) {
	for _, ways := range rightWays() {
		for b := range 256 {
			bits := uint8(b)
			var first [8]int
			for round := range 3 {
				var times [8]int
				for i := range ways {
					v := plru.Victim(bits, ways)
					if v < 0 || v >= ways {
						t.Fatalf("%#x: %d of %d ways", b, v, ways)
					}
					times[v]++
					if round == 0 {
						first[i] = v
					}
					if v != first[i] {
						t.Errorf("%#x, %d ways: round %d has %d, not %d", b, ways, round, v, first[i])
					}
					bits = plru.Touch(bits, ways, v)
				}
				for way := range ways {
					if times[way] != 1 {
						t.Errorf("%#x: %d of %d ways went %d times", b, way, ways, times[way])
					}
				}
				if int(bits) != b {
					t.Errorf("%#x, %d ways: behind a round the bits are %#x", b, ways, bits)
				}
			}
		}
	}
}

// P5.4: the victims of the most ways, from all bits 0, in their order.
func TestVictimsInOrder(t *testing.T) {
	var bits uint8
	for _, want := range []int{0, 4, 2, 6, 1, 5, 3, 7, 0, 4} {
		v := plru.Victim(bits, api.MaxWays)
		if v != want {
			t.Errorf("the victim is %d, not %d", v, want)
		}
		bits = plru.Touch(bits, api.MaxWays, v)
	}
}

// P5.2, P5.3, P5.4: a long row of touches, wrong ones among them, is told as the nodes say.
func TestLongRow(t *testing.T) {
	for _, ways := range rightWays() {
		bits, want, mixed := uint8(0xa5), 0xa5, uint32(ways)
		for range 5000 {
			mixed = mixed*1664525 + 1013904223
			way := int(mixed>>28) - 4
			bits = plru.Touch(bits, ways, way)
			if way >= 0 && way < ways {
				want = touched(want, ways, way)
			}
			if int(bits) != want || !pointed(want, ways, plru.Victim(bits, ways)) {
				t.Fatalf("%d ways, %d: %#x, not %#x, and victim %d", ways, way, bits, want, plru.Victim(bits, ways))
			}
		}
	}
}
