package array_test

import (
	"fmt"
	"math"
	"slices"
	"testing"

	"assent/api"
	"assent/array"
	"assent/fault"
	"assent/plru"
)

// sizes are the numbers of sets, and of ways, that may be.
func sizes() []int { return []int{1, 2, 4, 8} }

// wrongSizes are numbers of sets or ways that can't be: none, below none, no
// powers of two, past the most; some are right ones, once their upper bits are cut off.
func wrongSizes() []int {
	return []int{
		0, 3, 5, 6, 7, 9, 10, 12, 15, 16, 17, 32, 64, 128, 255, 256, 257, 258, 264, -1, -2, -3, -4, -7, -8, -9, -16, -64, -256,
		1 << 16, 1<<16 + 4, 1 << 31, 1 << 32, 1<<32 + 1, 1<<32 + 2, 1<<32 + 8, 1 << 62, -1 << 31, -1 << 32,
		math.MaxInt, math.MaxInt - 1, math.MinInt, math.MinInt + 1, math.MinInt + 8,
	}
}

// noLines are numbers of no line; some are right ones, once their upper bits are cut off.
func noLines() []int {
	return []int{
		-1, -2, -8, -31, -32, -33, api.MaxLines, api.MaxLines + 1, 40, 63, 64, 255, 256, 257, 1 << 16, 1 << 31, 1 << 32, 1<<32 + 1,
		1 << 62, -1 << 31, -1 << 32, math.MaxInt, math.MaxInt - 1, math.MinInt, math.MinInt + 1,
	}
}

func made(t *testing.T, sets, ways int) *array.Array {
	t.Helper()
	a, err := array.New(sets, ways)
	if a == nil || err != nil {
		t.Fatalf("New(%d, %d) is %v, %v", sets, ways, a, err)
	}
	return a
}

// entry is a right one of a line, off every edge.
func entry(line int) array.Entry {
	return array.Entry{Line: line, State: api.Exclusive, Mode: api.Moesi, Epoch: 9, Data: api.Line{1, uint32(line), 3, 4}}
}

// put puts entries of lines, none of which is to be refused.
func put(t *testing.T, a *array.Array, lines ...int) {
	t.Helper()
	for _, line := range lines {
		if err := a.Put(entry(line)); err != nil {
			t.Fatalf("Put of %d is %v", line, err)
		}
	}
}

func wantRefused(t *testing.T, err error, op string, at int, which error) {
	t.Helper()
	if f, ok := fault.Find(err); !ok || f != (api.Fault{Op: op, At: at, Err: which}) || fault.Depth(err) != 2 {
		t.Errorf("%#v: not %s, %d, %v", err, op, at, which)
	}
	others := []error{
		api.ErrArg, api.ErrLong, api.ErrShort, api.ErrForm, api.ErrTail, api.ErrFull,
		api.ErrBusy, api.ErrNone, api.ErrOrder, api.ErrValue,
	}
	others = slices.DeleteFunc(others, func(e error) bool { return e == which })
	if fault.Any(err, others...) != -1 {
		t.Errorf("%v is another error too", err)
	}
}

// lines are those of List, in its order.
func lines(a *array.Array) []int {
	out := []int{}
	for _, e := range a.List() {
		out = append(out, e.Line)
	}
	return out
}

func wantLines(t *testing.T, a *array.Array, want ...int) {
	t.Helper()
	if got := lines(a); !slices.Equal(got, want) {
		t.Errorf("the lines are %v, not %v", got, want)
	}
}

func wantVictim(t *testing.T, a *array.Array, want, line int, pinned ...int) {
	t.Helper()
	if got := a.Victim(line, pinned...); got != want {
		t.Errorf("Victim(%d, %v) is %d, not %d", line, pinned, got, want)
	}
}

// told is all that an array tells, as a text: its entries, and of each line
// whether it is there, whether it has room, and its victims.
func told(a *array.Array) string {
	out := fmt.Sprint(a.List())
	for line := -1; line <= api.MaxLines; line++ {
		e, ok := a.Get(line)
		out += fmt.Sprint(line, e, ok, a.Room(line), a.Victim(line))
		for other := range api.MaxLines {
			out += fmt.Sprint(a.Victim(line, other))
		}
	}
	return out
}

// The chapter's table.
func TestRuns(t *testing.T) {
	a := made(t, 1, 2)
	put(t, a, 1, 2)
	wantRefused(t, a.Put(entry(3)), "array.Put", 3, api.ErrFull)
	if !a.Touch(1) {
		t.Error("1 is not there")
	}
	wantVictim(t, a, 2, 3)
	wantVictim(t, a, 1, 3, 2)
	if a.Room(3) || !a.Drop(2) || !a.Room(3) {
		t.Error("room")
	}
}

// P6.1: each number of sets and ways that may be: no entry, room for each line.
func TestNew(t *testing.T) {
	for _, sets := range sizes() {
		for _, ways := range sizes() {
			a := made(t, sets, ways)
			if l := a.List(); len(l) != 0 {
				t.Errorf("%d sets, %d ways: %v", sets, ways, l)
			}
			for line := range api.MaxLines {
				e, ok := a.Get(line)
				if e != (array.Entry{}) || ok || !a.Room(line) || a.Touch(line) || a.Drop(line) || a.Victim(line) != -1 {
					t.Errorf("%d sets, %d ways: %d: %v, %v", sets, ways, line, e, ok)
				}
			}
		}
	}
}

func wantNoArray(t *testing.T, sets, ways, at int) {
	t.Helper()
	a, err := array.New(sets, ways)
	if a != nil {
		t.Errorf("New(%d, %d) made one", sets, ways)
	}
	wantRefused(t, err, "array.New", at, api.ErrArg)
}

// P6.1: sets, ways or both that can't be: the sets are told first.
func TestNewWrong(t *testing.T) {
	for _, wrong := range wrongSizes() {
		for _, right := range sizes() {
			wantNoArray(t, wrong, right, 0)
			wantNoArray(t, right, wrong, 1)
		}
		for _, other := range wrongSizes() {
			wantNoArray(t, wrong, other, 0)
		}
	}
}

// P6.1: of the numbers about the limits, just the powers of two from 1 to 8 can be.
func TestWhichSizesCanBe(t *testing.T) {
	if api.MaxSets != 8 || api.MaxWays != 8 {
		t.Error(api.MaxSets, api.MaxWays)
	}
	for n := -70; n <= 70; n++ {
		if slices.Contains(sizes(), n) {
			made(t, n, 1)
			made(t, 1, n)
		} else {
			wantNoArray(t, n, 1, 0)
			wantNoArray(t, 1, n, 1)
		}
	}
}

// P6.1, P6.3: each set has that many ways, for the lines that are at home in it: line mod sets.
func TestHomes(t *testing.T) {
	for _, sets := range sizes() {
		for _, ways := range sizes() {
			a := made(t, sets, ways)
			want := make([][]int, sets)
			for line := range api.MaxLines {
				home, err := line%sets, a.Put(entry(line))
				if len(want[home]) == ways {
					wantRefused(t, err, "array.Put", line, api.ErrFull)
					continue
				}
				if err != nil {
					t.Errorf("%d sets, %d ways: %v", sets, ways, err)
				}
				want[home] = append(want[home], line)
			}
			wantLines(t, a, slices.Concat(want...)...)
		}
	}
}

// P6.1: each set's bits are 0: way 0 goes, and then the ways to which a tree of 0 leads.
func TestBitsAtFirst(t *testing.T) {
	for _, sets := range sizes()[:3] {
		for _, ways := range sizes()[:3] {
			a := made(t, sets, ways)
			for line := range sets * ways {
				put(t, a, line)
			}
			for home := range sets {
				bits := uint8(0)
				for range 2 * ways {
					v := plru.Victim(bits, ways)
					wantVictim(t, a, v*sets+home, sets*ways+home)
					a.Touch(v*sets + home)
					bits = plru.Touch(bits, ways, v)
				}
			}
		}
	}
}

// P6.1: with 8 ways the bits of all 7 nodes are kept.
func TestEightWays(t *testing.T) {
	a := made(t, 1, 8)
	put(t, a, 10, 11, 12, 13, 14, 15, 16, 17)
	for _, want := range []int{10, 14, 12, 16, 11, 15, 13, 17, 10} {
		wantVictim(t, a, want, 31)
		a.Touch(want)
	}
}

// P6.1: a touch in one set turns no other one's bits.
func TestBitsOfOneSet(t *testing.T) {
	a := made(t, 4, 2)
	put(t, a, 0, 1, 2, 3, 4, 5, 6, 7)
	a.Touch(1)
	a.Touch(2)
	a.Touch(6)
	for home, want := range []int{0, 5, 2, 3} {
		wantVictim(t, a, want, 8+home)
	}
}

// P6.2: Get tells each field as it was put, at its least and its greatest.
func TestGetWhole(t *testing.T) {
	full := api.Line{math.MaxUint32, 1, 0, math.MaxUint32}
	for _, e := range []array.Entry{
		{State: api.Shared},
		{Line: 31, State: api.Modified, Mode: api.Migrant, Epoch: api.MaxEpoch, Data: full, Held: true, Fresh: true},
		{Line: 31, State: api.Owned, Mode: api.Dragon, Epoch: 1, Held: true},
		{Line: 0, State: api.Exclusive, Mode: api.Moesi, Epoch: 254, Data: api.Line{0, 0, 0, 5}, Fresh: true},
	} {
		for _, sets := range sizes() {
			a := made(t, sets, 1)
			if err := a.Put(e); err != nil {
				t.Errorf("Put(%v) is %v", e, err)
			}
			if got, ok := a.Get(e.Line); got != e || !ok {
				t.Errorf("%v, %v: not %v", got, ok, e)
			}
			if l := a.List(); !slices.Equal(l, []array.Entry{e}) {
				t.Errorf("%v: not %v", l, e)
			}
		}
	}
}

// P6.2: a line that isn't there, beside others of its set; line 0, whose number free ways have too.
func TestGetNone(t *testing.T) {
	a := made(t, 2, 4)
	put(t, a, 2, 3, 4)
	for _, line := range []int{0, 1, 5, 6, 10, 30, 31} {
		if e, ok := a.Get(line); e != (array.Entry{}) || ok {
			t.Errorf("%d: %v, %v", line, e, ok)
		}
	}
	put(t, a, 0)
	if e, ok := a.Get(0); e != entry(0) || !ok {
		t.Error(e, ok)
	}
	a.Drop(0)
	if e, ok := a.Get(0); e != (array.Entry{}) || ok {
		t.Error(e, ok)
	}
}

// P6.2: List goes by sets, then by ways, whatever the order was, free ways left out.
func TestListOrder(t *testing.T) {
	a := made(t, 4, 2)
	put(t, a, 31, 6, 1, 2, 27, 0, 29)
	wantLines(t, a, 0, 1, 29, 6, 2, 31, 27)
	a.Drop(31)
	a.Drop(0)
	wantLines(t, a, 1, 29, 6, 2, 27)
	put(t, a, 3, 4)
	wantLines(t, a, 4, 1, 29, 6, 2, 3, 27)
}

// P6.2: as many entries as there may be: each line, where sets and ways have room for all.
func TestListAll(t *testing.T) {
	a := made(t, 8, 8)
	want := []int{}
	for line := api.MaxLines - 1; line >= 0; line-- {
		put(t, a, line)
	}
	for home := range 8 {
		want = append(want, home+24, home+16, home+8, home)
	}
	wantLines(t, a, want...)
}

// R2: what is told and what was put shares no memory with the array, spare room too.
func TestMemory(t *testing.T) {
	a := made(t, 2, 2)
	e := entry(4)
	if err := a.Put(e); err != nil {
		t.Error(err)
	}
	put(t, a, 1, 2)
	before := told(a)
	e.State, e.Data[0] = api.Modified, 99
	got, _ := a.Get(4)
	got.Line, got.Data[1] = 7, 99
	first, second := a.List(), a.List()
	for i := range first[:cap(first)] {
		first[:cap(first)][i] = array.Entry{Line: 9, State: api.Owned}
	}
	if !slices.Equal(second, a.List()) || told(a) != before {
		t.Error("memory is shared:", second, a.List())
	}
	pins := []int{1, 4, 2, 3}
	if a.Victim(6, pins[:2]...) != 2 || !slices.Equal(pins, []int{1, 4, 2, 3}) {
		t.Error("pins were changed:", pins)
	}
	pins[1] = 2
	wantVictim(t, a, 4, 6)
}

// P6.1: two arrays have nothing in common.
func TestTwoArrays(t *testing.T) {
	a, b := made(t, 1, 2), made(t, 1, 2)
	put(t, a, 1, 2)
	put(t, b, 2, 3)
	a.Touch(1)
	b.Drop(2)
	wantLines(t, a, 1, 2)
	wantLines(t, b, 3)
	put(t, b, 4)
	wantVictim(t, a, 2, 9)
	wantVictim(t, b, 4, 9)
}

// P6.3: each number of an entry, from past its least to past its greatest.
func TestPutEachNumber(t *testing.T) {
	far := []int{math.MinInt, math.MaxInt, 1 << 32, 1<<32 + 1, -1 << 31, 1 << 8, 257}
	for part, ends := range [][2]int{{0, 31}, {1, 4}, {0, 3}, {0, 255}} {
		tried := slices.Clone(far)
		for n := ends[0] - 40; n <= ends[1]+40; n++ {
			tried = append(tried, n)
		}
		for _, n := range tried {
			a := made(t, 2, 2)
			put(t, a, 5, 6)
			e := entry(6)
			*[]*int{&e.Line, &e.State, &e.Mode, &e.Epoch}[part] = n
			before, err := told(a), a.Put(e)
			if ends[0] <= n && n <= ends[1] {
				if got, ok := a.Get(e.Line); err != nil || got != e || !ok {
					t.Errorf("Put(%v) is %v: %v, %v", e, err, got, ok)
				}
				continue
			}
			wantRefused(t, err, "array.Put", e.Line, api.ErrArg)
			if told(a) != before {
				t.Errorf("Put(%v), refused, changed something", e)
			}
		}
	}
}

// P6.3: several numbers wrong, and a wrong number where there is no room: ErrArg.
func TestPutArgAheadOfFull(t *testing.T) {
	a := made(t, 1, 1)
	put(t, a, 4)
	before := told(a)
	for _, e := range []array.Entry{
		{}, {Line: 5}, {Line: -1, State: 9, Mode: -1, Epoch: 999}, {Line: 32, State: api.Shared},
		{Line: 5, State: api.Shared, Mode: 4}, {Line: 5, State: api.Shared, Epoch: 256}, {Line: 5, State: 5},
		{Line: 4, State: api.Invalid}, {Line: 4, State: api.Shared, Epoch: -1},
	} {
		wantRefused(t, a.Put(e), "array.Put", e.Line, api.ErrArg)
	}
	wantRefused(t, a.Put(entry(5)), "array.Put", 5, api.ErrFull)
	if told(a) != before {
		t.Error("a refusal changed something")
	}
}

// P6.3: a line that is put anew stays in its way, in a full set and beside free ways.
func TestPutAnew(t *testing.T) {
	a := made(t, 1, 4)
	put(t, a, 3, 0, 7)
	anew := array.Entry{Line: 0, State: api.Modified, Mode: api.Dragon, Epoch: 255, Held: true}
	for _, filled := range []bool{false, true} {
		if filled {
			put(t, a, 9)
			anew.State, anew.Fresh = api.Shared, true
		}
		if err := a.Put(anew); err != nil {
			t.Error(err)
		}
		if l := a.List(); l[1] != anew || l[0] != entry(3) || l[2] != entry(7) {
			t.Error(l)
		}
	}
	wantLines(t, a, 3, 0, 7, 9)
	wantRefused(t, a.Put(entry(1)), "array.Put", 1, api.ErrFull)
}

// P6.3: a line behind a way that was freed is put anew where it stands, not in the free way.
func TestPutAnewBehindFreeWay(t *testing.T) {
	a := made(t, 1, 4)
	put(t, a, 1, 2, 3)
	a.Drop(1)
	put(t, a, 3, 2)
	wantLines(t, a, 2, 3)
	put(t, a, 5)
	wantLines(t, a, 5, 2, 3)
}

// P6.3: the first free way, also behind Drops.
func TestFirstFreeWay(t *testing.T) {
	a := made(t, 1, 8)
	put(t, a, 10, 11, 12, 13, 14, 15, 16, 17)
	for _, line := range []int{16, 12, 10, 17} {
		a.Drop(line)
	}
	wantLines(t, a, 11, 13, 14, 15)
	put(t, a, 1)
	wantLines(t, a, 1, 11, 13, 14, 15)
	put(t, a, 2)
	wantLines(t, a, 1, 11, 2, 13, 14, 15)
	put(t, a, 3, 4)
	wantLines(t, a, 1, 11, 2, 13, 14, 15, 3, 4)
}

// P6.3: a set that is full beside ones that aren't.
func TestFullBesideFree(t *testing.T) {
	a := made(t, 2, 2)
	put(t, a, 0, 2, 1)
	before := told(a)
	wantRefused(t, a.Put(entry(4)), "array.Put", 4, api.ErrFull)
	wantRefused(t, a.Put(entry(30)), "array.Put", 30, api.ErrFull)
	if told(a) != before || a.Room(4) || !a.Room(3) || !a.Room(31) || a.Victim(3) != -1 || a.Victim(4) != 0 {
		t.Error("room")
	}
	put(t, a, 31)
	wantLines(t, a, 0, 2, 1, 31)
	wantRefused(t, a.Put(entry(3)), "array.Put", 3, api.ErrFull)
}

// P6.3: Put turns no bits, of a new line or of one that is there.
func TestPutTouchesNothing(t *testing.T) {
	a := made(t, 1, 2)
	put(t, a, 1, 2)
	wantVictim(t, a, 1, 3)
	put(t, a, 1)
	wantVictim(t, a, 1, 3)
	a.Touch(1)
	put(t, a, 2, 1, 2)
	wantVictim(t, a, 2, 3)
}

// P6.4: Drop frees one way, once; the others stay where they are.
func TestDrop(t *testing.T) {
	a := made(t, 2, 4)
	put(t, a, 0, 2, 4, 6, 1)
	if a.Drop(8) || a.Drop(3) || !a.Drop(2) || a.Drop(2) {
		t.Error("dropped")
	}
	wantLines(t, a, 0, 4, 6, 1)
	if e, ok := a.Get(2); e != (array.Entry{}) || ok || a.Touch(2) {
		t.Error(e, ok)
	}
	if !a.Drop(0) || a.Drop(0) || !a.Drop(1) || !a.Drop(4) || !a.Drop(6) || len(a.List()) != 0 {
		t.Error(a.List())
	}
}

// P6.4: nothing of what was dropped comes back with a line that is put in its way.
func TestDropForgets(t *testing.T) {
	a := made(t, 1, 1)
	if err := a.Put(array.Entry{Line: 3, State: api.Modified, Epoch: 5, Data: api.Line{9, 9, 9, 9}, Held: true, Fresh: true}); err != nil {
		t.Error(err)
	}
	a.Drop(3)
	next := array.Entry{Line: 4, State: api.Shared}
	if err := a.Put(next); err != nil {
		t.Error(err)
	}
	if e, _ := a.Get(4); e != next {
		t.Error(e)
	}
}

// P6.4: Drop leaves the bits, also when all lines of a set are gone.
func TestDropLeavesBits(t *testing.T) {
	a := made(t, 1, 2)
	put(t, a, 1, 2)
	a.Touch(1)
	a.Drop(1)
	a.Drop(2)
	put(t, a, 5, 6)
	wantVictim(t, a, 6, 7)
	a.Touch(6)
	a.Drop(6)
	put(t, a, 2)
	wantVictim(t, a, 5, 7)
}

// P6.4: Touch turns the bits by the line's way, and changes no entry; of a line that isn't there, nothing.
func TestTouch(t *testing.T) {
	for way := range 4 {
		a := made(t, 1, 4)
		put(t, a, 20, 21, 22, 23)
		entries, before := a.List(), told(a)
		if a.Touch(24) || a.Touch(0) || told(a) != before {
			t.Error("a line that isn't there was touched")
		}
		for range 2 {
			if !a.Touch(20 + way) {
				t.Errorf("%d isn't there", 20+way)
			}
			wantVictim(t, a, 20+plru.Victim(plru.Touch(0, 4, way), 4), 5)
		}
		if !slices.Equal(a.List(), entries) {
			t.Error(a.List())
		}
	}
}

// P6.4: a line is touched in a set that isn't full, too, by all the ways that the set has.
func TestTouchBesideFreeWays(t *testing.T) {
	a := made(t, 1, 4)
	put(t, a, 1)
	a.Touch(1)
	put(t, a, 2, 3, 4)
	wantVictim(t, a, 3, 9)
}

// P6.5: what only asks changes nothing.
func TestAskingChangesNothing(t *testing.T) {
	a := made(t, 2, 2)
	put(t, a, 0, 2, 1)
	a.Touch(2)
	before := told(a)
	for line := -2; line < 40; line++ {
		a.Get(line)
		a.Room(line)
		a.Victim(line)
		a.Victim(line, 0, 1, 2)
		a.List()
	}
	if told(a) != before {
		t.Error("asking changed something")
	}
}

// P6.5: Room: the line is there, or a way of its set is free.
func TestRoom(t *testing.T) {
	a := made(t, 2, 1)
	put(t, a, 0)
	for line := range api.MaxLines {
		if want := line == 0 || line%2 == 1; a.Room(line) != want {
			t.Errorf("Room(%d) is %v", line, !want)
		}
	}
	put(t, a, 31)
	for line := range api.MaxLines {
		if want := line == 0 || line == 31; a.Room(line) != want {
			t.Errorf("Room(%d) is %v", line, !want)
		}
	}
	a.Drop(0)
	for line := range api.MaxLines {
		if want := line == 31 || line%2 == 0; a.Room(line) != want {
			t.Errorf("Room(%d) is %v", line, !want)
		}
	}
}

// P6.2 to P6.5: lines that are none, of an empty, a half full and a full array.
func TestNoLines(t *testing.T) {
	for _, sets := range sizes() {
		for _, filled := range []int{0, 1, 8} {
			a := made(t, sets, 1)
			for line := range min(filled, sets) {
				put(t, a, line)
			}
			before := told(a)
			for _, line := range noLines() {
				e, ok := a.Get(line)
				if e != (array.Entry{}) || ok || a.Drop(line) || a.Touch(line) || a.Room(line) {
					t.Errorf("%d is there: %v, %v", line, e, ok)
				}
				wantVictim(t, a, -1, line)
				wantVictim(t, a, -1, line, line, 0)
				wantRefused(t, a.Put(entry(line)), "array.Put", line, api.ErrArg)
			}
			if told(a) != before {
				t.Error("a line that is none changed something")
			}
		}
	}
}

// P6.5: pins: none, the victim, others, all, twice, of lines that aren't there, elsewhere, or none.
func TestVictimPinned(t *testing.T) {
	a := made(t, 2, 4)
	put(t, a, 6, 4, 2, 0, 1)
	a.Touch(6)
	// the bits point to the second half, to its first way: line 2
	for _, c := range []struct {
		want   int
		pinned []int
	}{
		{2, nil}, {2, []int{}}, {2, []int{6}}, {2, []int{0, 4, 6}}, {2, []int{8, 1, 30, 31, -1, 32, math.MaxInt, math.MinInt}},
		{6, []int{2}}, {6, []int{2, 2, 2}}, {6, []int{0, 2, 4}}, {6, []int{31, -1, 2}},
		{4, []int{2, 6}}, {4, []int{6, 0, 2}}, {0, []int{6, 4, 2}}, {0, []int{2, 4, 6, 8}},
		{-1, []int{0, 2, 4, 6}}, {-1, []int{6, 4, 2, 0, 6, 31, -1}}, {-1, []int{-1, 0, 2, 4, 6, 32}},
	} {
		wantVictim(t, a, c.want, 8, c.pinned...)
	}
	wantVictim(t, a, 2, 8, 8)
	wantVictim(t, a, -1, 7, 1)
}

// P6.5: the first way that isn't pinned, not the one to which the bits would point next.
func TestVictimFirstWay(t *testing.T) {
	a := made(t, 1, 8)
	put(t, a, 17, 16, 15, 14, 13, 12, 11, 10)
	a.Touch(17)
	wantVictim(t, a, 13, 0)
	pinned := []int{13}
	for _, want := range []int{17, 16, 15, 14, 12, 11, 10, -1} {
		wantVictim(t, a, want, 0, pinned...)
		pinned = append(pinned, want)
	}
}

// P6.5: a line that has Room has no victim: it is there, or a way is free, pinned or not.
func TestVictimRoom(t *testing.T) {
	a := made(t, 1, 2)
	wantVictim(t, a, -1, 3)
	put(t, a, 0)
	wantVictim(t, a, -1, 3)
	wantVictim(t, a, -1, 3, 0)
	put(t, a, 5)
	for _, line := range []int{0, 5} {
		wantVictim(t, a, -1, line)
		wantVictim(t, a, -1, line, 0)
	}
	wantVictim(t, a, 0, 3)
	a.Drop(5)
	wantVictim(t, a, -1, 5)
	wantVictim(t, a, -1, 3)
}

// P6.5: one way: it goes, if it isn't pinned; line 0 and the last line are victims as others are.
func TestVictimOneWay(t *testing.T) {
	for _, line := range []int{0, 31} {
		a := made(t, 1, 1)
		put(t, a, line)
		wantVictim(t, a, line, 7)
		a.Touch(line)
		wantVictim(t, a, line, 7)
		wantVictim(t, a, line, 7, 7)
		wantVictim(t, a, -1, 7, line)
	}
}

// P6.5: the victim, dropped, makes room for the line that asked.
func TestVictimMakesRoom(t *testing.T) {
	for _, sets := range sizes() {
		for _, ways := range sizes() {
			a := made(t, sets, ways)
			for round := range 3 * api.MaxLines {
				line := round * 7 % api.MaxLines
				v := a.Victim(line)
				if a.Room(line) != (v == -1) || v != -1 && (!a.Drop(v) || v%sets != line%sets) {
					t.Errorf("%d sets, %d ways: %d for %d", sets, ways, v, line)
				}
				put(t, a, line)
				a.Touch(line)
			}
		}
	}
}

// plain is an array told in another way: a row of places, each with a line's
// entry or none, a set's ones beside each other.
type plain struct {
	sets, ways int
	there      map[int]array.Entry
	at         map[int]int
	bits       map[int]uint8
}

// free is the first place of a line's set at which none is, or -1.
func (p *plain) free(line int) int {
	for place := line % p.sets * p.ways; place < line%p.sets*p.ways+p.ways; place++ {
		if p.lineAt(place) < 0 {
			return place
		}
	}
	return -1
}

func (p *plain) lineAt(place int) int {
	for line, at := range p.at {
		if at == place {
			return line
		}
	}
	return -1
}

func (p *plain) put(e array.Entry) bool {
	if _, ok := p.there[e.Line]; !ok {
		place := p.free(e.Line)
		if place < 0 {
			return false
		}
		p.at[e.Line] = place
	}
	p.there[e.Line] = e
	return true
}

func (p *plain) drop(line int) bool {
	_, ok := p.there[line]
	delete(p.there, line)
	delete(p.at, line)
	return ok
}

func (p *plain) touch(line int) bool {
	_, ok := p.there[line]
	if ok {
		home := line % p.sets
		p.bits[home] = plru.Touch(p.bits[home], p.ways, p.at[line]-home*p.ways)
	}
	return ok
}

func (p *plain) room(line int) bool {
	_, ok := p.there[line]
	return ok || p.free(line) >= 0
}

func (p *plain) victim(line int, pinned []int) int {
	if p.room(line) {
		return -1
	}
	begin := line % p.sets * p.ways
	order := []int{begin + plru.Victim(p.bits[line%p.sets], p.ways)}
	for way := range p.ways {
		order = append(order, begin+way)
	}
	for _, place := range order {
		if v := p.lineAt(place); !slices.Contains(pinned, v) {
			return v
		}
	}
	return -1
}

func (p *plain) list() []array.Entry {
	var out []array.Entry
	for place := range p.sets * p.ways {
		if line := p.lineAt(place); line >= 0 {
			out = append(out, p.there[line])
		}
	}
	return out
}

// draw is a row of numbers that is the same in each run.
type draw uint64

func (d *draw) below(n int) int {
	*d = *d*6364136223846793005 + 1442695040888963407
	return int(uint64(*d) >> 33 % uint64(n))
}

// step does one thing to both, and tells whether they answered the same.
func step(a *array.Array, p *plain, d *draw) bool {
	line := d.below(api.MaxLines)
	switch d.below(4) {
	case 0:
		return a.Drop(line) == p.drop(line)
	case 1:
		return a.Touch(line) == p.touch(line)
	}
	e := array.Entry{Line: line, State: 1 + d.below(4), Mode: d.below(4), Epoch: d.below(256), Held: d.below(2) == 0, Fresh: d.below(2) == 0}
	for i := range e.Data {
		e.Data[i] = uint32(d.below(1 << 31))
	}
	return (a.Put(e) == nil) == p.put(e)
}

// P6.1 to P6.5: long rows of calls, held against the array told in another way.
func TestLongRows(t *testing.T) {
	for _, sets := range sizes() {
		for _, ways := range sizes() {
			a, d := made(t, sets, ways), draw(sets*10+ways)
			p := &plain{sets, ways, map[int]array.Entry{}, map[int]int{}, map[int]uint8{}}
			for i := range 600 {
				if !step(a, p, &d) || !slices.Equal(a.List(), p.list()) {
					t.Fatalf("%d sets, %d ways, step %d: %v, not %v", sets, ways, i, a.List(), p.list())
				}
				pinned := []int{}
				for range d.below(5) {
					pinned = append(pinned, d.below(api.MaxLines))
				}
				for line := range api.MaxLines {
					e, ok := a.Get(line)
					w, there := p.there[line]
					if e != w || ok != there || a.Room(line) != p.room(line) || a.Victim(line, pinned...) != p.victim(line, pinned) {
						t.Fatalf("%d sets, %d ways, step %d, line %d, pinned %v", sets, ways, i, line, pinned)
					}
				}
			}
		}
	}
}
