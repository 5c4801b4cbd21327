package mshr_test

import (
	"fmt"
	"math"
	"slices"
	"testing"

	"assent/api"
	"assent/fault"
	"assent/mshr"
)

// kinds are those that may be under way.
func kinds() []int { return []int{mshr.Read, mshr.Write, mshr.Update, mshr.Evict} }

// noKinds are numbers of no kind; some are right ones, once their upper bits are cut off.
func noKinds() []int {
	return []int{
		0, -1, -2, -3, -4, -5, mshr.Evict + 1, mshr.Evict + 2, 8, 9, 31, 32, 255, 256, 257, 260, 1<<16 + 1, 1<<31 + 1, 1 << 32, 1<<32 + 1,
		1<<32 + 4, 1<<62 + 2, -1 << 31, -1 << 32, math.MaxInt, math.MaxInt - 1, math.MinInt, math.MinInt + 1, math.MinInt + 4,
	}
}

// noLines are numbers of no line; some are right ones, once their upper bits are cut off.
func noLines() []int {
	return []int{
		-1, -2, -8, -31, -32, -33, api.MaxLines, api.MaxLines + 1, 40, 63, 64, 127, 128, 255, 256, 257, 1 << 16, 1 << 31, 1 << 32, 1<<32 + 1,
		1<<32 + 31, 1 << 62, -1 << 31, -1 << 32, math.MaxInt, math.MaxInt - 1, math.MinInt, math.MinInt + 1, math.MinInt + 31,
	}
}

func made(t *testing.T, most int) *mshr.Table {
	t.Helper()
	x, err := mshr.New(most)
	if x == nil || err != nil {
		t.Fatalf("New(%d) is %v, %v", most, x, err)
	}
	return x
}

// add adds misses, none of which is to be refused.
func add(t *testing.T, x *mshr.Table, misses ...mshr.Miss) {
	t.Helper()
	for _, m := range misses {
		if err := x.Add(m.Line, m.Kind); err != nil {
			t.Fatalf("Add of %v is %v", m, err)
		}
	}
}

// filled is a table of that many, all of which are under way: of the lines 0
// and 31, and of those from 10 on, in a row that doesn't rise.
func filled(t *testing.T, most int) *mshr.Table {
	t.Helper()
	x := made(t, most)
	rows := []int{31, 0, 16, 10, 15, 11, 14, 12}
	for i, line := range rows[:most] {
		add(t, x, mshr.Miss{Line: line, Kind: kinds()[i%4]})
	}
	return x
}

func wantRefused(t *testing.T, err error, op string, at int, which error) {
	t.Helper()
	if f, ok := fault.Find(err); !ok || f != (api.Fault{Op: op, At: at, Err: which}) || fault.Depth(err) != 2 {
		t.Errorf("%#v: not %s, %d, %v", err, op, at, which)
	}
	others := []error{
		api.ErrArg, api.ErrLong, api.ErrShort, api.ErrForm, api.ErrTail, api.ErrFull,
		api.ErrBusy, api.ErrNone, api.ErrOrder, api.ErrValue,
	}
	others = slices.DeleteFunc(others, func(e error) bool { return e == which })
	if fault.Any(err, others...) != -1 {
		t.Errorf("%v is another error too", err)
	}
}

// told is all that a table tells, as a text.
func told(x *mshr.Table) string {
	out := fmt.Sprint(len(x.List()), x.List(), x.Full())
	for line := -2; line <= api.MaxLines+1; line++ {
		kind, ok := x.Get(line)
		out += fmt.Sprint(" ", line, kind, ok)
	}
	return out
}

// wantAddRefused asks that an Add is refused so, and that it changed nothing.
func wantAddRefused(t *testing.T, x *mshr.Table, line, kind int, which error) {
	t.Helper()
	was := told(x)
	wantRefused(t, x.Add(line, kind), "mshr.Add", line, which)
	if now := told(x); now != was {
		t.Errorf("Add(%d, %d), refused, made %s of %s", line, kind, now, was)
	}
}

func wantGet(t *testing.T, x *mshr.Table, line, kind int, there bool) {
	t.Helper()
	if k, ok := x.Get(line); k != kind || ok != there {
		t.Errorf("Get(%d) is %d, %v, not %d, %v", line, k, ok, kind, there)
	}
}

func wantDrop(t *testing.T, x *mshr.Table, line int, was bool) {
	t.Helper()
	if got := x.Drop(line); got != was {
		t.Errorf("Drop(%d) is %v", line, got)
	}
}

func wantFull(t *testing.T, x *mshr.Table, full bool) {
	t.Helper()
	if got := x.Full(); got != full {
		t.Errorf("Full is %v, with %v", got, x.List())
	}
}

func wantList(t *testing.T, x *mshr.Table, want ...mshr.Miss) {
	t.Helper()
	if got := x.List(); !slices.Equal(got, want) {
		t.Errorf("the list is %v, not %v", got, want)
	}
}

// The chapter's table.
func TestRuns(t *testing.T) {
	x := made(t, 1)
	if err := x.Add(3, mshr.Read); err != nil {
		t.Error(err)
	}
	wantRefused(t, x.Add(3, mshr.Write), "mshr.Add", 3, api.ErrBusy)
	wantRefused(t, x.Add(4, mshr.Read), "mshr.Add", 4, api.ErrFull)
	wantGet(t, x, 3, mshr.Read, true)
	wantDrop(t, x, 3, true)
	wantList(t, x)
}

// The numbers of the kinds, as the chapter counts them.
func TestKinds(t *testing.T) {
	if !slices.Equal(kinds(), []int{1, 2, 3, 4}) {
		t.Error(kinds())
	}
}

// P7.1: each number that may be: nothing is under way.
func TestNew(t *testing.T) {
	for most := 1; most <= api.MaxMshrs; most++ {
		x := made(t, most)
		wantList(t, x)
		wantFull(t, x, false)
		for line := range api.MaxLines {
			wantGet(t, x, line, 0, false)
			wantDrop(t, x, line, false)
		}
	}
}

func wantNoTable(t *testing.T, most int) {
	t.Helper()
	x, err := mshr.New(most)
	if x != nil {
		t.Errorf("New(%d) made one", most)
	}
	wantRefused(t, err, "mshr.New", most, api.ErrArg)
}

// P7.1: numbers that can't be; some are right ones, once their upper bits are cut off.
func TestNewWrong(t *testing.T) {
	if api.MaxMshrs != 8 {
		t.Error(api.MaxMshrs)
	}
	for most := -70; most <= 0; most++ {
		wantNoTable(t, most)
	}
	for most := api.MaxMshrs + 1; most <= 70; most++ {
		wantNoTable(t, most)
	}
	for _, most := range []int{
		255, 256, 257, 264, 1 << 16, 1<<16 + 1, 1 << 31, 1 << 32, 1<<32 + 1, 1<<32 + 8, 1 << 62,
		-1 << 31, -1 << 32, math.MaxInt, math.MaxInt - 1, math.MinInt, math.MinInt + 1, math.MinInt + 8,
	} {
		wantNoTable(t, most)
	}
}

// P7.1: what is under way in one table is not in another.
func TestTablesApart(t *testing.T) {
	x, y := made(t, 1), made(t, 1)
	add(t, x, mshr.Miss{Line: 3, Kind: mshr.Read})
	wantList(t, y)
	wantFull(t, y, false)
	add(t, y, mshr.Miss{Line: 3, Kind: mshr.Write})
	wantDrop(t, y, 3, true)
	wantList(t, x, mshr.Miss{Line: 3, Kind: mshr.Read})
}

// P7.1: each table, with none up to most: just with most it is full, and with one fewer no more.
func TestFull(t *testing.T) {
	for most := 1; most <= api.MaxMshrs; most++ {
		x := made(t, most)
		for i := range most {
			wantFull(t, x, false)
			add(t, x, mshr.Miss{Line: i * 4, Kind: mshr.Update})
		}
		wantFull(t, x, true)
		wantAddRefused(t, x, 31, mshr.Read, api.ErrFull)
		for i := range most {
			wantDrop(t, x, i*4, true)
			wantFull(t, x, false)
			add(t, x, mshr.Miss{Line: i*4 + 1, Kind: mshr.Evict})
			wantFull(t, x, true)
		}
		wantDrop(t, x, 1, true)
		wantDrop(t, x, 1, false)
		wantFull(t, x, false)
		if n := len(x.List()); n != most-1 {
			t.Errorf("%d of %d", n, most)
		}
	}
}

// P7.1: the list rises, in whatever order the lines were added.
func TestListRises(t *testing.T) {
	a, b := mshr.Miss{Line: 0, Kind: mshr.Evict}, mshr.Miss{Line: 9, Kind: mshr.Write}
	c, d := mshr.Miss{Line: 10, Kind: mshr.Read}, mshr.Miss{Line: 31, Kind: mshr.Update}
	for _, order := range [][]mshr.Miss{
		{a, b, c, d}, {d, c, b, a}, {c, a, d, b}, {b, d, a, c}, {d, a, c, b}, {a, d, b, c},
	} {
		x := made(t, 4)
		add(t, x, order...)
		wantList(t, x, a, b, c, d)
		wantDrop(t, x, 9, true)
		wantList(t, x, a, c, d)
		add(t, x, b)
		wantList(t, x, a, b, c, d)
	}
}

// P7.1, R2: a list is new memory, its spare room too: what is done to it is not to be seen.
func TestListNew(t *testing.T) {
	x := made(t, api.MaxMshrs)
	a, b, c := mshr.Miss{Line: 1, Kind: mshr.Read}, mshr.Miss{Line: 2, Kind: mshr.Write}, mshr.Miss{Line: 3, Kind: mshr.Evict}
	add(t, x, a, b, c)
	first, second := x.List(), x.List()
	for i := range first {
		first[i] = mshr.Miss{Line: 30, Kind: 9}
	}
	_ = append(first[:2], mshr.Miss{Line: 29, Kind: 8}, mshr.Miss{Line: 28, Kind: 7})
	wantList(t, x, a, b, c)
	if !slices.Equal(second, []mshr.Miss{a, b, c}) {
		t.Error(second)
	}
	wantDrop(t, x, 1, true)
	if !slices.Equal(second, []mshr.Miss{a, b, c}) {
		t.Error(second)
	}
	wantGet(t, x, 30, 0, false)
	wantGet(t, x, 3, mshr.Evict, true)
}

// P7.2, P7.3: each line and each kind, by itself.
func TestEachLineAndKind(t *testing.T) {
	for line := range api.MaxLines {
		for _, kind := range kinds() {
			x := made(t, 1)
			add(t, x, mshr.Miss{Line: line, Kind: kind})
			wantList(t, x, mshr.Miss{Line: line, Kind: kind})
			for other := range api.MaxLines {
				if other == line {
					wantGet(t, x, line, kind, true)
				} else {
					wantGet(t, x, other, 0, false)
					wantDrop(t, x, other, false)
				}
			}
			wantGet(t, x, line, kind, true)
			wantDrop(t, x, line, true)
			wantGet(t, x, line, 0, false)
			wantDrop(t, x, line, false)
			wantList(t, x)
		}
	}
}

// P7.2: a line that is no line, or a kind that is none, of tables with
// nothing, something and as much as may be under way: always ErrArg, at the line.
func TestAddWrong(t *testing.T) {
	some := made(t, 3)
	add(t, some, mshr.Miss{Line: 0, Kind: mshr.Read}, mshr.Miss{Line: 31, Kind: mshr.Evict})
	for _, x := range []*mshr.Table{made(t, 1), made(t, api.MaxMshrs), some, filled(t, 1), filled(t, 3), filled(t, api.MaxMshrs)} {
		for _, line := range noLines() {
			for _, kind := range slices.Concat(kinds(), noKinds()) {
				wantAddRefused(t, x, line, kind, api.ErrArg)
			}
		}
		// Of these lines some are under way, some aren't.
		for line := range api.MaxLines {
			for _, kind := range noKinds() {
				wantAddRefused(t, x, line, kind, api.ErrArg)
			}
		}
	}
}

// P7.2: a line that has something under way is busy for every kind, its own
// one too, whether or not the table has room; the kind stays.
func TestAddBusy(t *testing.T) {
	for _, most := range []int{1, 2, api.MaxMshrs} {
		for _, line := range []int{0, 5, api.MaxLines - 1} {
			for _, first := range kinds() {
				x := made(t, most)
				add(t, x, mshr.Miss{Line: line, Kind: first})
				for _, kind := range kinds() {
					wantAddRefused(t, x, line, kind, api.ErrBusy)
				}
				wantGet(t, x, line, first, true)
			}
		}
	}
}

// P7.2: of a full table: busy, for each line that is under way, and no room for each other one.
func TestAddFull(t *testing.T) {
	for most := 1; most <= api.MaxMshrs; most++ {
		x := filled(t, most)
		wantFull(t, x, true)
		for line := range api.MaxLines {
			which := api.ErrFull
			if _, ok := x.Get(line); ok {
				which = api.ErrBusy
			}
			for _, kind := range kinds() {
				wantAddRefused(t, x, line, kind, which)
			}
		}
	}
}

// P7.2, P7.3: a line that is dropped is asked for again, with a kind of its own; the others stay.
func TestAddAgain(t *testing.T) {
	x := made(t, 2)
	add(t, x, mshr.Miss{Line: 7, Kind: mshr.Read}, mshr.Miss{Line: 8, Kind: mshr.Evict})
	for _, kind := range kinds() {
		wantDrop(t, x, 7, true)
		wantGet(t, x, 7, 0, false)
		wantList(t, x, mshr.Miss{Line: 8, Kind: mshr.Evict})
		add(t, x, mshr.Miss{Line: 7, Kind: kind})
		wantList(t, x, mshr.Miss{Line: 7, Kind: kind}, mshr.Miss{Line: 8, Kind: mshr.Evict})
		wantAddRefused(t, x, 7, mshr.Read, api.ErrBusy)
		wantAddRefused(t, x, 9, mshr.Read, api.ErrFull)
	}
}

// P7.3: of a line that is none, or has nothing under way, there is none to tell or to drop.
func TestGetAndDropNone(t *testing.T) {
	for _, x := range []*mshr.Table{made(t, 1), filled(t, 1), filled(t, 4), filled(t, api.MaxMshrs)} {
		was := told(x)
		for _, line := range append(noLines(), 1, 17, 30) {
			wantGet(t, x, line, 0, false)
			wantDrop(t, x, line, false)
		}
		if now := told(x); now != was {
			t.Errorf("%s, not %s", now, was)
		}
	}
}

// draw is a row of numbers that is the same in each run.
type draw uint64

func (d *draw) below(n int) int {
	*d = *d*6364136223846793005 + 1442695040888963407
	return int(uint64(*d) >> 33 % uint64(n))
}

// plain is a table told in another way: the misses in the order in which they came.
type plain struct {
	most   int
	misses []mshr.Miss
}

func (p *plain) at(line int) int {
	return slices.IndexFunc(p.misses, func(m mshr.Miss) bool { return m.Line == line })
}

// add tells which error there is to be, and adds, if there is none.
func (p *plain) add(line, kind int) error {
	switch {
	case line < 0 || line > 31 || kind < 1 || kind > 4:
		return api.ErrArg
	case p.at(line) >= 0:
		return api.ErrBusy
	case len(p.misses) == p.most:
		return api.ErrFull
	}
	p.misses = append(p.misses, mshr.Miss{Line: line, Kind: kind})
	return nil
}

func (p *plain) drop(line int) bool {
	at := p.at(line)
	if at >= 0 {
		p.misses = slices.Delete(p.misses, at, at+1)
	}
	return at >= 0
}

func (p *plain) list() []mshr.Miss {
	out := slices.Clone(p.misses)
	slices.SortFunc(out, func(a, b mshr.Miss) int { return a.Line - b.Line })
	return out
}

// wantSame asks that a table tells what the other one does.
func wantSame(t *testing.T, x *mshr.Table, p *plain) {
	t.Helper()
	wantList(t, x, p.list()...)
	wantFull(t, x, len(p.misses) == p.most)
	for line := -1; line <= api.MaxLines; line++ {
		if at := p.at(line); at >= 0 {
			wantGet(t, x, line, p.misses[at].Kind, true)
		} else {
			wantGet(t, x, line, 0, false)
		}
	}
}

// P7.1 to P7.3: long rows of calls, held against the table told in another way.
func TestLongRows(t *testing.T) {
	for most := 1; most <= api.MaxMshrs; most++ {
		x, p, d := made(t, most), &plain{most: most}, draw(most)
		for range 2000 {
			line, kind := d.below(api.MaxLines+2)-1, d.below(6)
			if d.below(5) < 2 {
				// Of lines by chance few would be under way.
				if n := len(p.misses); n > 0 && d.below(2) == 0 {
					line = p.misses[d.below(n)].Line
				}
				wantDrop(t, x, line, p.drop(line))
			} else if which := p.add(line, kind); which == nil {
				add(t, x, mshr.Miss{Line: line, Kind: kind})
			} else {
				wantRefused(t, x.Add(line, kind), "mshr.Add", line, which)
			}
			wantSame(t, x, p)
		}
	}
}
