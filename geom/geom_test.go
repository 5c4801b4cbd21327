package geom_test

import (
	"errors"
	"math"
	"testing"

	"assent/api"
	"assent/fault"
	"assent/geom"
)

// good is a machine that may be, off every edge.
func good() api.Config {
	return api.Config{Cores: 3, Lines: 5, Sets: 2, Ways: 4, Mshrs: 3, Buffer: 3, Pool: 9, High: 6, Low: 2}
}

// parts are the numbers of a configuration, in the order in which they are asked.
func parts(c *api.Config) []*int {
	return []*int{&c.Cores, &c.Lines, &c.Sets, &c.Ways, &c.Mshrs, &c.Buffer, &c.Pool, &c.High, &c.Low}
}

// turned is good with one of its numbers another.
func turned(part, n int) api.Config {
	c := good()
	*parts(&c)[part] = n
	return c
}

func wantRight(t *testing.T, c api.Config) {
	t.Helper()
	if err := geom.Check(c); err != nil {
		t.Errorf("Check(%+v) is %v", c, err)
	}
	if n := geom.Total(c); n != c.Lines*4 {
		t.Errorf("Total(%+v) is %d", c, n)
	}
}

func wantRefused(t *testing.T, c api.Config, at int) {
	t.Helper()
	err := geom.Check(c)
	want := api.Fault{Op: "geom.Check", At: at, Err: api.ErrArg}
	if f, ok := fault.Find(err); !ok || f != want || fault.Depth(err) != 2 {
		t.Errorf("Check(%+v) is %#v, not refused at %d", c, err, at)
	}
	if n := geom.Total(c); n != 0 {
		t.Errorf("Total(%+v) is %d", c, n)
	}
}

// The chapter's table.
func TestRuns(t *testing.T) {
	if geom.Line(9) != 2 || geom.Word(9) != 1 || geom.Addr(2, 1) != 9 {
		t.Error(geom.Line(9), geom.Word(9), geom.Addr(2, 1))
	}
	if geom.Set(5, 4) != 1 || geom.Area(5) != 1 || geom.Line(128) != -1 {
		t.Error(geom.Set(5, 4), geom.Area(5), geom.Line(128))
	}
	wantRefused(t, api.Config{Cores: 1, Lines: 1, Sets: 3, Ways: 1, Mshrs: 1, Buffer: 1, Pool: 1, High: 1}, 2)
}

// P2.1: each number from its least to its greatest, and past both ends.
func TestCheckEachNumber(t *testing.T) {
	for part, ends := range [][2]int{{1, 64}, {1, 32}, {1, 8}, {1, 8}, {1, 8}, {1, 8}, {1, 64}, {3, 15}, {-1, 5}} {
		for n := ends[0] - 70; n <= ends[1]+70; n++ {
			c := turned(part, n)
			powered := part != 2 && part != 3 || n == 1 || n == 2 || n == 4 || n == 8
			switch {
			case ends[0] <= n && n <= ends[1] && powered:
				wantRight(t, c)
			case part == 7 && n >= 1 && n <= 2:
				// High alone is right, but Low is no longer below it.
				wantRefused(t, c, 8)
			default:
				wantRefused(t, c, part)
			}
		}
	}
}

// P2.1: the greatest and the least int, and powers of two that are too great.
func TestCheckFarNumbers(t *testing.T) {
	for part := range 9 {
		for _, n := range []int{math.MaxInt, math.MinInt, math.MinInt + 1, 1 << 62, 1 << 32, 1 << 31, 1<<32 + 1, -1 << 31} {
			wantRefused(t, turned(part, n), part)
		}
	}
}

// P2.1: Low goes to High - 1, whatever High is.
func TestCheckLowBelowHigh(t *testing.T) {
	for high := 1; high <= 15; high++ {
		c := good()
		c.High = high
		for c.Low = -1; c.Low < high; c.Low++ {
			wantRight(t, c)
		}
		wantRefused(t, c, 8)
		c.Low = -2
		wantRefused(t, c, 8)
	}
}

// P2.1: a High that can't be is told ahead of the Low that hangs on it.
func TestCheckHighAheadOfLow(t *testing.T) {
	for _, high := range []int{0, -1, 16, math.MinInt, math.MaxInt} {
		for _, low := range []int{-1, 0, 15, math.MinInt, math.MaxInt} {
			c := good()
			c.High, c.Low = high, low
			wantRefused(t, c, 7)
		}
	}
}

// P2.1: all at their least, and all at their greatest.
func TestCheckEnds(t *testing.T) {
	wantRight(t, api.Config{Cores: 1, Lines: 1, Sets: 1, Ways: 1, Mshrs: 1, Buffer: 1, Pool: 1, High: 1, Low: -1})
	wantRight(t, api.Config{Cores: 64, Lines: 32, Sets: 8, Ways: 8, Mshrs: 8, Buffer: 8, Pool: 64, High: 15, Low: 14})
	wantRefused(t, api.Config{}, 0)
}

// P2.1: of several that aren't so, the first.
func TestCheckFirst(t *testing.T) {
	for first := range 9 {
		for second := first; second < 9; second++ {
			c := turned(first, -5)
			*parts(&c)[second] = 100
			wantRefused(t, c, first)
		}
		c := good()
		for _, p := range parts(&c)[first:] {
			*p = -2
		}
		wantRefused(t, c, first)
	}
}

// P2.1: the error is api.ErrArg and no other one of api's.
func TestCheckTellsArg(t *testing.T) {
	err := geom.Check(api.Config{})
	others := []error{
		api.ErrLong, api.ErrShort, api.ErrForm, api.ErrTail, api.ErrFull,
		api.ErrBusy, api.ErrNone, api.ErrOrder, api.ErrValue,
	}
	if !errors.Is(err, api.ErrArg) || fault.Any(err, others...) != -1 {
		t.Error(err)
	}
}

// P2.1: Total counts words by the lines alone.
func TestTotal(t *testing.T) {
	for lines := 1; lines <= 32; lines++ {
		if n := geom.Total(turned(1, lines)); n != 4*lines {
			t.Errorf("%d words of %d lines", n, lines)
		}
	}
}

// P2.2: a word's number, there and back.
func TestWords(t *testing.T) {
	addr := 0
	for line := range 32 {
		for word := range 4 {
			if geom.Line(addr) != line || geom.Word(addr) != word || geom.Addr(line, word) != addr {
				t.Errorf("%d is %d, %d; %d, %d is %d", addr, geom.Line(addr), geom.Word(addr), line, word, geom.Addr(line, word))
			}
			addr++
		}
	}
}

// P2.2: numbers of no word.
func TestNoWords(t *testing.T) {
	for _, addr := range []int{-1, -2, -3, -4, -5, -128, 128, 129, 132, 1 << 32, 1<<62 + 1, math.MaxInt, math.MinInt} {
		if geom.Line(addr) != -1 || geom.Word(addr) != -1 {
			t.Errorf("%d is %d, %d", addr, geom.Line(addr), geom.Word(addr))
		}
	}
}

// P2.2: lines and words that are none have no number.
func TestNoAddr(t *testing.T) {
	for _, c := range [][2]int{
		{-1, 0}, {-1, 3}, {-1, 4}, {32, 0}, {32, -1}, {33, 3}, {0, -1}, {0, 4}, {31, 4}, {31, -1}, {1, -4},
		{1 << 62, 0}, {math.MaxInt, 3}, {math.MinInt, 0}, {0, math.MaxInt}, {0, math.MinInt}, {-1, 8},
	} {
		if n := geom.Addr(c[0], c[1]); n != -1 {
			t.Errorf("Addr(%d, %d) is %d", c[0], c[1], n)
		}
	}
}

// P2.2: the set of each line, for each number of sets that may be.
func TestSets(t *testing.T) {
	for _, sets := range []int{1, 2, 4, 8} {
		want := 0
		for line := range 32 {
			if n := geom.Set(line, sets); n != want {
				t.Errorf("Set(%d, %d) is %d, not %d", line, sets, n, want)
			}
			want++
			if want == sets {
				want = 0
			}
		}
	}
}

// P2.2: no line, or no number of sets.
func TestNoSets(t *testing.T) {
	for _, line := range []int{-1, -8, 32, 33, math.MaxInt, math.MinInt} {
		for _, sets := range []int{1, 2, 4, 8, 3, 0} {
			if n := geom.Set(line, sets); n != -1 {
				t.Errorf("Set(%d, %d) is %d", line, sets, n)
			}
		}
	}
	for _, sets := range []int{0, 3, 5, 6, 7, 9, 16, 32, -1, -2, -8, 1 << 62, math.MaxInt, math.MinInt} {
		for _, line := range []int{0, 1, 31} {
			if n := geom.Set(line, sets); n != -1 {
				t.Errorf("Set(%d, %d) is %d", line, sets, n)
			}
		}
	}
}

// P2.2: the region of each line, and of none.
func TestArea(t *testing.T) {
	line := 0
	for area := range 8 {
		for range 4 {
			if n := geom.Area(line); n != area {
				t.Errorf("Area(%d) is %d, not %d", line, n, area)
			}
			line++
		}
	}
	for _, none := range []int{-1, -4, 32, 35, math.MaxInt, math.MinInt} {
		if n := geom.Area(none); n != -1 {
			t.Errorf("Area(%d) is %d", none, n)
		}
	}
}
