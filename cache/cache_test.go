package cache_test

import (
	"fmt"
	"math"
	"slices"
	"testing"

	"assent/api"
	"assent/array"
	"assent/cache"
	"assent/fault"
	"assent/mshr"
	"assent/plru"
)

// core is whose the caches of these tests are, but where they name another: no zero, and not the last.
const core = 3

func conf(sets, ways, mshrs int) api.Config {
	return api.Config{Cores: 5, Lines: 32, Sets: sets, Ways: ways, Mshrs: mshrs, Buffer: 1, Pool: 1, High: 1}
}

func made(t *testing.T, sets, ways, mshrs int) *cache.Cache {
	t.Helper()
	return madeOf(t, conf(sets, ways, mshrs), core)
}

func madeOf(t *testing.T, c api.Config, core int) *cache.Cache {
	t.Helper()
	x, err := cache.New(c, core)
	if x == nil || err != nil {
		t.Fatalf("New(%+v, %d) is %v, %v", c, core, x, err)
	}
	return x
}

// The states that a line may be in, the modes, the kinds that a core may want, the forwards.
func states() []int {
	return []int{api.Shared, api.Exclusive, api.Owned, api.Modified}
}

func modes() []int { return []int{api.Mesi, api.Moesi, api.Dragon, api.Migrant} }

func wants() []int { return []int{mshr.Read, mshr.Write, mshr.Update} }

func forwards() []int {
	return []int{api.FShare, api.FInval, api.FHold, api.FUpdate, api.FClean, api.FTake}
}

// past are numbers below 0 and above most; some are within, once their upper bits are cut off.
func past(most int) []int {
	out := []int{math.MinInt, math.MinInt + 1, math.MaxInt - 1, math.MaxInt, -1 << 31, -1 << 32, 1 << 31, 1 << 32, -1, -2}
	for n := most + 1; n < most+20; n++ {
		out = append(out, n, -n)
	}
	for n := 0; n <= most; n++ {
		out = append(out, n+1<<8, n-1<<8, n+1<<16, n+1<<32, n-1<<32, n+1<<62, math.MinInt+n)
	}
	return slices.DeleteFunc(out, func(n int) bool { return 0 <= n && n <= most })
}

func noLines() []int { return past(api.MaxLines - 1) }
func noWords() []int { return past(api.Words - 1) }

// noWants are kinds that a core can't want: none, an eviction, and numbers that are no kind.
func noWants() []int { return append(past(mshr.Evict), 0, mshr.Evict) }

// of is a message of this core that says no more than its kind and its line.
func of(kind, line int) api.Msg { return api.Msg{Kind: kind, Core: core, Line: line} }

// data is a home's answer; without words it has no data.
func data(line, state, mode, epoch int, words ...uint32) api.Msg {
	m := api.Msg{Kind: api.RData, Core: core, Line: line, State: state, Mode: mode, Epoch: epoch, Has: len(words) > 0}
	copy(m.Data[:], words)
	return m
}

// ack is what is told of a forward; without words it has no data.
func ack(line, state int, words ...uint32) api.Msg {
	m := api.Msg{Kind: api.RAck, Core: core, Line: line, State: state, Has: len(words) > 0}
	copy(m.Data[:], words)
	return m
}

// wordOf is a message that names a word and a value.
func wordOf(kind, line, word int, v uint32) api.Msg {
	return api.Msg{Kind: kind, Core: core, Line: line, Word: word, Value: v}
}

// forwardOf is a right forward of a kind; a mode goes along where it names one.
func forwardOf(kind, line, mode int) api.Msg {
	m := of(kind, line)
	switch kind {
	case api.FShare:
		m.Mode = mode
	case api.FClean:
		m.Mode, m.Epoch = mode, 77
	case api.FUpdate:
		m.Word, m.Value = 2, 99
	}
	return m
}

// words are a line's, told apart from each other line's.
func words(line int) []uint32 {
	n := uint32(line)
	return []uint32{10 + n, 50 + n, 100 + n, math.MaxUint32 - n}
}

func lineOf(l []uint32) api.Line { return api.Line(l) }

// bring lets a line be there in a state, a mode and an epoch, with its words, used already.
func bring(t *testing.T, c *cache.Cache, line, s, mode, epoch int) {
	t.Helper()
	first := s
	if s == api.Owned {
		first = api.Modified
	}
	wantFilled(t, c, data(line, first, mode, epoch, words(line)...))
	wantRead(t, c, line, 0, words(line)[0])
	if s == api.Owned {
		wantForward(t, c, forwardOf(api.FShare, line, api.Moesi), ack(line, api.Owned, words(line)...))
	}
	wantEntry(t, c, array.Entry{Line: line, State: s, Mode: mode, Epoch: epoch, Data: lineOf(words(line))})
}

// ask lets a core want a line to read, which the home answers, so that it is there, and fresh.
func ask(t *testing.T, c *cache.Cache, line int) {
	t.Helper()
	wantSent(t, c, line, mshr.Read, of(api.QRead, line))
	wantFilled(t, c, data(line, api.Shared, api.Mesi, 0, words(line)...))
}

// told is all that a cache tells, but for who is to go; wantVictim asks for that.
func told(c *cache.Cache) string { return fmt.Sprint(c.Entries(), c.Misses()) }

func wantRefused(t *testing.T, err error, op string, at int, which error) {
	t.Helper()
	if f, ok := fault.Find(err); !ok || f != (api.Fault{Op: op, At: at, Err: which}) || fault.Depth(err) != 2 {
		t.Errorf("%#v: not %s, %d, %v", err, op, at, which)
	}
	wantOnly(t, err, which)
}

// wantDeep asks that err is one that is told by two calls, the one below with its own place.
func wantDeep(t *testing.T, err error, op string, at int, below string, belowAt int, which error) {
	t.Helper()
	inner := api.Fault{Op: below, At: belowAt, Err: which}
	if f, ok := fault.Find(err); !ok || f != (api.Fault{Op: op, At: at, Err: inner}) || fault.Depth(err) != 3 {
		t.Errorf("%#v: not %s, %d, %s, %d, %v", err, op, at, below, belowAt, which)
	}
	if l := fault.Ops(err); !slices.Equal(l, []string{op, below}) {
		t.Error(l)
	}
	wantOnly(t, err, which)
}

// wantOnly asks that err is that one of api's, and no other.
func wantOnly(t *testing.T, err, which error) {
	t.Helper()
	for _, e := range []error{
		api.ErrArg, api.ErrLong, api.ErrShort, api.ErrForm, api.ErrTail, api.ErrFull,
		api.ErrBusy, api.ErrNone, api.ErrOrder, api.ErrValue,
	} {
		if got := fault.Any(err, e) == 0; got != (e == which) {
			t.Errorf("%v: is it %v? %v", err, e, got)
		}
	}
}

// wantEntry asks that an entry is there as it is told.
func wantEntry(t *testing.T, c *cache.Cache, want array.Entry) {
	t.Helper()
	if e, ok := c.Peek(want.Line); e != want || !ok {
		t.Errorf("%d is %+v, %v, not %+v", want.Line, e, ok, want)
	}
}

// wantLines asks that these lines are there, in this order, and no others.
func wantLines(t *testing.T, c *cache.Cache, want ...int) {
	t.Helper()
	got := []int{}
	for _, e := range c.Entries() {
		got = append(got, e.Line)
	}
	if !slices.Equal(got, want) {
		t.Errorf("the lines are %v, not %v", got, want)
	}
}

// wantMisses asks that these are under way, in this order, and no others.
func wantMisses(t *testing.T, c *cache.Cache, want ...mshr.Miss) {
	t.Helper()
	if got := c.Misses(); !slices.Equal(got, want) {
		t.Errorf("under way is %v, not %v", got, want)
	}
}

func wantRead(t *testing.T, c *cache.Cache, line, word int, want uint32) {
	t.Helper()
	if v, ok := c.Read(line, word); v != want || !ok {
		t.Errorf("Read(%d, %d) is %d, %v, not %d", line, word, v, ok, want)
	}
}

func wantNoRead(t *testing.T, c *cache.Cache, line, word int) {
	t.Helper()
	was := told(c)
	if v, ok := c.Read(line, word); v != 0 || ok {
		t.Errorf("Read(%d, %d) is %d, %v", line, word, v, ok)
	}
	if now := told(c); now != was {
		t.Errorf("Read(%d, %d) made %s of %s", line, word, now, was)
	}
}

func wantWrite(t *testing.T, c *cache.Cache, line, word int, v uint32) {
	t.Helper()
	if !c.Write(line, word, v) {
		t.Errorf("Write(%d, %d, %d) is false", line, word, v)
	}
}

func wantNoWrite(t *testing.T, c *cache.Cache, line, word int) {
	t.Helper()
	was := told(c)
	if c.Write(line, word, 123) {
		t.Errorf("Write(%d, %d) is true", line, word)
	}
	if now := told(c); now != was {
		t.Errorf("Write(%d, %d) made %s of %s", line, word, now, was)
	}
}

// wantSent asks for a line, word 1 and value 9, and that this request is told.
func wantSent(t *testing.T, c *cache.Cache, line, kind int, want api.Msg) {
	t.Helper()
	was := fmt.Sprint(c.Entries())
	if m, err := c.Want(line, kind, 1, 9); m != want || err != nil {
		t.Errorf("Want(%d, %d) is %+v, %v, not %+v", line, kind, m, err, want)
	}
	if now := fmt.Sprint(c.Entries()); now != was {
		t.Errorf("Want(%d, %d) made %s of %s", line, kind, now, was)
	}
}

// unsent asks for a line, and tells the error; nothing is to be done beside it.
func unsent(t *testing.T, c *cache.Cache, line, kind, word int) error {
	t.Helper()
	was := told(c)
	m, err := c.Want(line, kind, word, 9)
	if m != (api.Msg{}) || err == nil {
		t.Errorf("Want(%d, %d, %d) is %+v, %v", line, kind, word, m, err)
	}
	if now := told(c); now != was {
		t.Errorf("Want(%d, %d, %d) made %s of %s", line, kind, word, now, was)
	}
	return err
}

func wantUnsent(t *testing.T, c *cache.Cache, line, kind, word int, which error) {
	t.Helper()
	wantRefused(t, unsent(t, c, line, kind, word), "cache.Want", line, which)
}

// wantTableFull asks that what mshr tells of a line comes up.
func wantTableFull(t *testing.T, c *cache.Cache, line, kind, of int) {
	t.Helper()
	wantDeep(t, unsent(t, c, line, kind, 0), "cache.Want", line, "mshr.Add", of, api.ErrFull)
}

// wantVictim asks that a line which isn't there would make that one go. It is
// the last that a test asks of a cache: an eviction is under way then.
func wantVictim(t *testing.T, c *cache.Cache, line, victim int) {
	t.Helper()
	wantSent(t, c, line, mshr.Write, of(api.QEvict, victim))
}

func wantForward(t *testing.T, c *cache.Cache, m, want api.Msg) {
	t.Helper()
	if got, ok := c.Forward(m); got != want || !ok {
		t.Errorf("Forward(%+v) is %+v, %v, not %+v", m, got, ok, want)
	}
}

func wantNoForward(t *testing.T, c *cache.Cache, m api.Msg) {
	t.Helper()
	was := told(c)
	if got, ok := c.Forward(m); got != (api.Msg{}) || ok {
		t.Errorf("Forward(%+v) is %+v, %v", m, got, ok)
	}
	if now := told(c); now != was {
		t.Errorf("Forward(%+v) made %s of %s", m, now, was)
	}
}

// wantFilled asks that an answer is taken in, and that the home hears of it.
func wantFilled(t *testing.T, c *cache.Cache, m api.Msg) {
	t.Helper()
	if got, ok := c.Answer(m); got != of(api.RFill, m.Line) || !ok {
		t.Errorf("Answer(%+v) is %+v, %v", m, got, ok)
	}
}

// wantGone asks that an RGone is taken in, and leaves the lines.
func wantGone(t *testing.T, c *cache.Cache, line int) {
	t.Helper()
	was := fmt.Sprint(c.Entries())
	if got, ok := c.Answer(of(api.RGone, line)); got != (api.Msg{}) || !ok {
		t.Errorf("RGone of %d is %+v, %v", line, got, ok)
	}
	if now := fmt.Sprint(c.Entries()); now != was {
		t.Errorf("RGone of %d made %s of %s", line, now, was)
	}
}

func wantNoAnswer(t *testing.T, c *cache.Cache, m api.Msg) {
	t.Helper()
	was := told(c)
	if got, ok := c.Answer(m); got != (api.Msg{}) || ok {
		t.Errorf("Answer(%+v) is %+v, %v", m, got, ok)
	}
	if now := told(c); now != was {
		t.Errorf("Answer(%+v) made %s of %s", m, now, was)
	}
}

// The chapter's table.
func TestRuns(t *testing.T) {
	c := madeOf(t, conf(1, 1, 2), 0)
	m, err := c.Want(3, mshr.Read, 0, 0)
	if m != (api.Msg{Kind: api.QRead, Line: 3}) || err != nil {
		t.Error(m, err)
	}
	wantUnsent(t, c, 3, mshr.Write, 0, api.ErrBusy)
	m, ok := c.Answer(api.Msg{Kind: api.RData, Line: 3, State: api.Exclusive, Has: true, Data: api.Line{7}})
	if m != (api.Msg{Kind: api.RFill, Line: 3}) || !ok {
		t.Error(m, ok)
	}
	wantRead(t, c, 3, 0, 7)
	wantWrite(t, c, 3, 1, 9)
	m, ok = c.Forward(api.Msg{Kind: api.FShare, Line: 3, Mode: api.Mesi})
	if m != (api.Msg{Kind: api.RAck, Line: 3, State: api.Shared, Has: true, Data: api.Line{7, 9}}) || !ok {
		t.Error(m, ok)
	}
	m, err = c.Want(4, mshr.Read, 0, 0)
	if m != (api.Msg{Kind: api.QEvict, Line: 3}) || err != nil {
		t.Error(m, err)
	}
	m, ok = c.Forward(api.Msg{Kind: api.FTake, Line: 3})
	if m != (api.Msg{Kind: api.RAck, Line: 3, State: api.Invalid}) || !ok {
		t.Error(m, ok)
	}
}

// P14.1: each core of each number of them, each size: no line, and nothing under way.
func TestNew(t *testing.T) {
	sizes := []int{1, 2, 4, 8}
	for _, sets := range sizes {
		for _, ways := range sizes {
			wantEmpty(t, made(t, sets, ways, 1))
		}
	}
	for _, cores := range []int{1, 2, 63, api.MaxCores} {
		for n := range cores {
			c := conf(1, 1, 1)
			c.Cores = cores
			x := madeOf(t, c, n)
			wantEmpty(t, x)
			// whose it is, by what it sends, and by what it takes in
			if m, err := x.Want(1, mshr.Read, 0, 0); m != (api.Msg{Kind: api.QRead, Core: n, Line: 1}) || err != nil {
				t.Error(m, err)
			}
			if m, ok := x.Forward(api.Msg{Kind: api.FInval, Core: n}); m != (api.Msg{Kind: api.RAck, Core: n}) || !ok {
				t.Error(m, ok)
			}
			if _, ok := x.Forward(api.Msg{Kind: api.FInval, Core: (n + 1) % api.MaxCores}); ok {
				t.Error("another core's")
			}
		}
	}
}

func wantEmpty(t *testing.T, c *cache.Cache) {
	t.Helper()
	wantLines(t, c)
	wantMisses(t, c)
	for line := range api.MaxLines {
		if e, ok := c.Peek(line); e != (array.Entry{}) || ok {
			t.Errorf("%d is there: %+v", line, e)
		}
		wantNoRead(t, c, line, 0)
		wantNoWrite(t, c, line, 0)
	}
}

// P14.1: as many sets, ways and misses as the configuration says, no more.
func TestSizes(t *testing.T) {
	for _, sets := range []int{1, 2, 4, 8} {
		for _, ways := range []int{1, 2, 4, 8} {
			c, want := made(t, sets, ways, 8), make([][]int, sets)
			for line := range api.MaxLines {
				m := data(line, api.Shared, api.Mesi, 0, words(line)...)
				if len(want[line%sets]) == ways {
					wantNoAnswer(t, c, m)
					continue
				}
				wantFilled(t, c, m)
				want[line%sets] = append(want[line%sets], line)
			}
			wantLines(t, c, slices.Concat(want...)...)
		}
	}
	for most := 1; most <= api.MaxMshrs; most++ {
		c, want := made(t, 8, 8, most), []mshr.Miss{}
		for line := range 8 {
			wantFilled(t, c, data(line, api.Shared, api.Mesi, 0, 1))
		}
		for line := range most {
			wantSent(t, c, line, mshr.Write, of(api.QWrite, line))
			want = append(want, mshr.Miss{Line: line, Kind: mshr.Write})
		}
		wantMisses(t, c, want...)
		wantTableFull(t, c, 8, mshr.Read, 8)
	}
}

func wantNoCache(t *testing.T, c api.Config, core int) error {
	t.Helper()
	x, err := cache.New(c, core)
	if x != nil || err == nil {
		t.Errorf("New(%+v, %d) is %v, %v", c, core, x, err)
	}
	return err
}

// P14.1: of a configuration one number of which can't be, geom's error comes up, with its place, whatever the core is.
func TestNewOfNoConfig(t *testing.T) {
	for at := range 9 {
		for _, n := range append(past(65), 65) {
			c := conf(2, 2, 2)
			*[]*int{&c.Cores, &c.Lines, &c.Sets, &c.Ways, &c.Mshrs, &c.Buffer, &c.Pool, &c.High, &c.Low}[at] = n
			if at == 8 && n == -1 {
				continue
			}
			for _, core := range []int{0, 3, -1, 5, n} {
				wantDeep(t, wantNoCache(t, c, core), "cache.New", 0, "geom.Check", at, api.ErrArg)
			}
		}
	}
	wantDeep(t, wantNoCache(t, api.Config{}, 0), "cache.New", 0, "geom.Check", 0, api.ErrArg)
	for _, n := range []int{0, 3, 5, 6, 7, 9, 16} {
		wantDeep(t, wantNoCache(t, conf(n, n, n), 0), "cache.New", 0, "geom.Check", 2, api.ErrArg)
		wantDeep(t, wantNoCache(t, conf(1, n, n), 0), "cache.New", 0, "geom.Check", 3, api.ErrArg)
	}
	wantDeep(t, wantNoCache(t, conf(1, 1, 0), 0), "cache.New", 0, "geom.Check", 4, api.ErrArg)
	wantDeep(t, wantNoCache(t, conf(1, 1, 9), 0), "cache.New", 0, "geom.Check", 4, api.ErrArg)
}

// P14.1: cores that are none of the machine's, each at its number.
func TestNewOfNoCore(t *testing.T) {
	for _, cores := range []int{1, 2, 5, api.MaxCores} {
		c := conf(1, 1, 1)
		c.Cores = cores
		for _, n := range past(cores - 1) {
			wantRefused(t, wantNoCache(t, c, n), "cache.New", n, api.ErrArg)
		}
		madeOf(t, c, 0)
		madeOf(t, c, cores-1)
	}
}

// P14.1: Peek tells an entry whole, and none of a line that isn't there; it neither uses nor touches it.
func TestPeek(t *testing.T) {
	c := made(t, 1, 2, 2)
	wantFilled(t, c, data(31, api.Modified, api.Migrant, 255, 1, 2, 3, math.MaxUint32))
	wantFilled(t, c, data(0, api.Shared, api.Mesi, 0, 5))
	e := array.Entry{
		Line: 31, State: api.Modified, Mode: api.Migrant, Epoch: 255, Data: api.Line{1, 2, 3, math.MaxUint32}, Fresh: true,
	}
	for range 3 {
		wantEntry(t, c, e)
	}
	for _, line := range append(noLines(), 1, 2, 30) {
		if e, ok := c.Peek(line); e != (array.Entry{}) || ok {
			t.Errorf("Peek(%d) is %+v, %v", line, e, ok)
		}
	}
	wantVictim(t, c, 5, 31)
}

// P14.1: Entries tells all lines, set by set, way by way; Misses by rising lines.
func TestEntriesAndMisses(t *testing.T) {
	c := made(t, 2, 4, 4)
	for _, line := range []int{7, 4, 31, 2, 0, 1} {
		bring(t, c, line, api.Shared, api.Mesi, 0)
	}
	wantLines(t, c, 4, 2, 0, 7, 31, 1)
	wantSent(t, c, 31, mshr.Write, of(api.QWrite, 31))
	wantSent(t, c, 0, mshr.Update, of(api.QWrite, 0))
	wantSent(t, c, 6, mshr.Read, of(api.QRead, 6))
	wantSent(t, c, 3, mshr.Update, of(api.QWrite, 3))
	wantMisses(t, c, mshr.Miss{Line: 0, Kind: mshr.Write}, mshr.Miss{Line: 3, Kind: mshr.Write}, mshr.Miss{Line: 6, Kind: mshr.Read}, mshr.Miss{Line: 31, Kind: mshr.Write})
	wantForward(t, c, of(api.FInval, 4), ack(4, api.Invalid))
	wantLines(t, c, 2, 0, 7, 31, 1)
}

// R2: what is told is new memory, spare room too.
func TestMemory(t *testing.T) {
	c := made(t, 2, 2, 4)
	for _, line := range []int{0, 1, 2} {
		bring(t, c, line, api.Shared, api.Mesi, 0)
	}
	wantSent(t, c, 0, mshr.Write, of(api.QWrite, 0))
	wantSent(t, c, 3, mshr.Read, of(api.QRead, 3))
	was := told(c)
	l, x := c.Entries(), c.Misses()
	l2, x2 := c.Entries(), c.Misses()
	for i := range l[:cap(l)] {
		l[:cap(l)][i] = array.Entry{Line: 9, State: api.Owned}
	}
	for i := range x[:cap(x)] {
		x[:cap(x)][i] = mshr.Miss{Line: 9, Kind: mshr.Evict}
	}
	if told(c) != was || !slices.Equal(l2, c.Entries()) || !slices.Equal(x2, c.Misses()) {
		t.Errorf("%s, not %s", told(c), was)
	}
}

// P14.1: two caches have nothing in common.
func TestCachesApart(t *testing.T) {
	a, b := made(t, 1, 1, 1), made(t, 1, 1, 1)
	wantSent(t, a, 3, mshr.Read, of(api.QRead, 3))
	wantEmpty(t, b)
	wantFilled(t, b, data(3, api.Exclusive, api.Mesi, 0, 8))
	wantWrite(t, b, 3, 0, 9)
	wantLines(t, a)
	wantMisses(t, a, mshr.Miss{Line: 3, Kind: mshr.Read})
	wantFilled(t, a, data(3, api.Shared, api.Mesi, 0, 7))
	wantRead(t, a, 3, 0, 7)
	wantRead(t, b, 3, 0, 9)
}

// P14.2: each word, in each state and mode; nothing is changed by it.
func TestRead(t *testing.T) {
	for _, s := range states() {
		for _, mode := range modes() {
			c := made(t, 2, 2, 2)
			bring(t, c, 5, s, mode, 3)
			bring(t, c, 6, api.Shared, api.Mesi, 0)
			was := told(c)
			for word, v := range words(5) {
				wantRead(t, c, 5, word, v)
				wantNoRead(t, c, 7, word)
				wantNoRead(t, c, 4, word)
			}
			if now := told(c); now != was {
				t.Errorf("%s, not %s", now, was)
			}
		}
	}
}

// P14.2: each word, where the state lets it be written: Modified from then on; the rest stays.
func TestWrite(t *testing.T) {
	for _, s := range states() {
		for _, mode := range modes() {
			for word := range api.Words {
				c := made(t, 2, 2, 2)
				bring(t, c, 5, s, mode, 3)
				bring(t, c, 7, api.Exclusive, api.Mesi, 0)
				e := array.Entry{Line: 5, State: s, Mode: mode, Epoch: 3, Data: lineOf(words(5))}
				if s == api.Shared || s == api.Owned {
					wantNoWrite(t, c, 5, word)
				} else {
					wantWrite(t, c, 5, word, 1<<32-7)
					e.State, e.Data[word] = api.Modified, 1<<32-7
					wantRead(t, c, 5, word, 1<<32-7)
				}
				wantEntry(t, c, e)
				wantNoWrite(t, c, 9, word)
				wantEntry(t, c, array.Entry{Line: 7, State: api.Exclusive, Data: lineOf(words(7))})
				wantMisses(t, c)
			}
		}
	}
}

// P14.2: no such word, no such line, one that isn't there, in a cache that has line 0, and word 0's value.
func TestReadAndWriteOfNone(t *testing.T) {
	for _, s := range states() {
		c := made(t, 1, 2, 2)
		bring(t, c, 0, s, api.Mesi, 0)
		wantFilled(t, c, data(1, api.Modified, api.Mesi, 0, 1, 2, 3, 4))
		for _, word := range noWords() {
			for _, line := range []int{0, 1, 2, -1} {
				wantNoRead(t, c, line, word)
				wantNoWrite(t, c, line, word)
			}
		}
		for _, line := range append(noLines(), 2, 3, 31) {
			for word := range api.Words {
				wantNoRead(t, c, line, word)
				wantNoWrite(t, c, line, word)
			}
		}
	}
}

// P14.2: a held line is neither read nor written, in any state.
func TestReadAndWriteOfHeld(t *testing.T) {
	for _, s := range states() {
		c := made(t, 1, 1, 1)
		bring(t, c, 4, s, api.Dragon, 0)
		wantForward(t, c, of(api.FHold, 4), ack(4, s))
		for word := range api.Words {
			wantNoRead(t, c, 4, word)
			wantNoWrite(t, c, 4, word)
		}
		wantForward(t, c, wordOf(api.FUpdate, 4, 3, 5), ack(4, s))
		wantRead(t, c, 4, 3, 5)
		if got := c.Write(4, 0, 1); got != (s == api.Exclusive || s == api.Modified) {
			t.Error(s, got)
		}
	}
}

// P14.2: a line is fresh till it is read or written; what is refused doesn't use it.
func TestUsed(t *testing.T) {
	for _, s := range []int{api.Shared, api.Exclusive, api.Modified} {
		c := made(t, 1, 2, 1)
		e := array.Entry{Line: 8, State: s, Mode: api.Moesi, Epoch: 2, Data: lineOf(words(8)), Fresh: true}
		wantFilled(t, c, data(8, s, api.Moesi, 2, words(8)...))
		wantFilled(t, c, data(9, s, api.Moesi, 2, words(9)...))
		for _, word := range noWords() {
			wantNoRead(t, c, 8, word)
			wantNoWrite(t, c, 8, word)
		}
		wantEntry(t, c, e)
		wantRead(t, c, 8, 2, words(8)[2])
		e.Fresh = false
		wantEntry(t, c, e)
		other := array.Entry{Line: 9, State: s, Mode: api.Moesi, Epoch: 2, Data: lineOf(words(9)), Fresh: true}
		wantEntry(t, c, other)
		if s == api.Shared {
			wantNoWrite(t, c, 9, 1)
			wantEntry(t, c, other)
			continue
		}
		wantWrite(t, c, 9, 1, 3)
		other.State, other.Data[1], other.Fresh = api.Modified, 3, false
		wantEntry(t, c, other)
	}
}

// P14.2, P14.4, P14.5: what touches a line, and what doesn't: of two ways the
// one that was touched stays. The lines are 1 and 2, touched in this order.
func TestTouched(t *testing.T) {
	for i, k := range []struct {
		victim int
		do     func(c *cache.Cache)
	}{
		{1, func(c *cache.Cache) {}},
		{2, func(c *cache.Cache) { c.Read(1, 3) }},
		{2, func(c *cache.Cache) { c.Write(1, 3, 4) }},
		{2, func(c *cache.Cache) { c.Answer(data(1, api.Shared, api.Mesi, 0)) }},
		{2, func(c *cache.Cache) { c.Answer(wordOf(api.RApply, 1, 0, 0)) }},
		{1, func(c *cache.Cache) { c.Read(1, 4) }},
		{1, func(c *cache.Cache) { c.Read(1, -1) }},
		{1, func(c *cache.Cache) { c.Write(1, 4, 4) }},
		{1, func(c *cache.Cache) { c.Forward(forwardOf(api.FShare, 1, api.Mesi)); c.Write(1, 0, 4) }},
		{1, func(c *cache.Cache) { c.Forward(of(api.FHold, 1)); c.Read(1, 0); c.Write(1, 0, 4) }},
		{1, func(c *cache.Cache) { c.Peek(1); c.Entries() }},
		{1, func(c *cache.Cache) { c.Want(1, mshr.Read, 0, 0) }},
		{1, func(c *cache.Cache) { c.Answer(of(api.RGone, 1)) }},
		{1, func(c *cache.Cache) {
			c.Answer(data(1, api.Owned, api.Mesi, 0))
			c.Answer(data(5, api.Shared, api.Mesi, 0, 1))
		}},
		{1, func(c *cache.Cache) { c.Forward(forwardOf(api.FShare, 1, api.Moesi)) }},
		{1, func(c *cache.Cache) { c.Forward(forwardOf(api.FClean, 1, api.Moesi)) }},
		{1, func(c *cache.Cache) { c.Forward(forwardOf(api.FUpdate, 1, api.Moesi)) }},
		{1, func(c *cache.Cache) { c.Forward(of(api.FHold, 1)) }},
		{1, func(c *cache.Cache) { c.Want(1, mshr.Write, 0, 0); c.Answer(of(api.RGone, 1)) }},
	} {
		c := made(t, 1, 2, 3)
		bring(t, c, 1, api.Modified, api.Dragon, 0)
		bring(t, c, 2, api.Modified, api.Dragon, 0)
		k.do(c)
		if m, err := c.Want(9, mshr.Read, 0, 0); m != of(api.QEvict, k.victim) || err != nil {
			t.Errorf("%d: %+v, %v, not %d", i, m, err, k.victim)
		}
	}
}

// P14.3: what each kind asks for of a line that isn't there: its Update is a Write; words go with none.
func TestWantOfNotThere(t *testing.T) {
	for _, line := range []int{0, 1, 17, 31} {
		for i, kind := range wants() {
			c := made(t, 2, 2, 1)
			bring(t, c, (line+1)%2+4, api.Modified, api.Dragon, 0)
			wantSent(t, c, line, kind, of([]int{api.QRead, api.QWrite, api.QWrite}[i], line))
			wantMisses(t, c, mshr.Miss{Line: line, Kind: []int{mshr.Read, mshr.Write, mshr.Write}[i]})
		}
	}
}

// P14.3: what each kind asks for of a line that is there, in each state and mode, held or not, fresh or not.
func TestWantOfThere(t *testing.T) {
	for _, s := range states() {
		for _, mode := range modes() {
			for _, held := range []bool{false, true} {
				for _, kind := range wants() {
					c := made(t, 2, 1, 1)
					bring(t, c, 6, s, mode, 4)
					if held {
						wantForward(t, c, of(api.FHold, 6), ack(6, s))
					}
					switch {
					case kind == mshr.Read:
						wantUnsent(t, c, 6, kind, 1, api.ErrBusy)
					case kind == mshr.Update && mode == api.Dragon:
						wantSent(t, c, 6, kind, wordOf(api.QUpdate, 6, 1, 9))
						wantMisses(t, c, mshr.Miss{Line: 6, Kind: mshr.Update})
					default:
						wantSent(t, c, 6, kind, of(api.QWrite, 6))
						wantMisses(t, c, mshr.Miss{Line: 6, Kind: mshr.Write})
					}
				}
			}
		}
	}
	c := made(t, 1, 1, 1)
	wantFilled(t, c, data(2, api.Shared, api.Dragon, 0, 1))
	wantUnsent(t, c, 2, mshr.Read, 0, api.ErrBusy)
	wantSent(t, c, 2, mshr.Update, wordOf(api.QUpdate, 2, 1, 9))
}

// P14.3: each word and value goes with a QUpdate, the least and the greatest too.
func TestWordOfUpdate(t *testing.T) {
	for word := range api.Words {
		for _, v := range []uint32{0, 1, 1 << 31, math.MaxUint32} {
			c := made(t, 1, 1, 1)
			bring(t, c, 2, api.Shared, api.Dragon, 0)
			if m, err := c.Want(2, mshr.Update, word, v); m != wordOf(api.QUpdate, 2, word, v) || err != nil {
				t.Error(word, v, m, err)
			}
			c = made(t, 1, 1, 1)
			if m, err := c.Want(2, mshr.Update, word, v); m != of(api.QWrite, 2) || err != nil {
				t.Error(word, v, m, err)
			}
		}
	}
}

// P14.3: lines, kinds and words that can't be, alone and together, whether the line is there, under way, or has no room.
func TestWantOfWrong(t *testing.T) {
	c := made(t, 1, 1, 2)
	bring(t, c, 0, api.Shared, api.Dragon, 0)
	wantSent(t, c, 0, mshr.Write, of(api.QWrite, 0))
	for _, line := range noLines() {
		for _, kind := range wants() {
			wantUnsent(t, c, line, kind, 0, api.ErrArg)
		}
		wantUnsent(t, c, line, mshr.Evict, 0, api.ErrArg)
		wantUnsent(t, c, line, mshr.Read, -1, api.ErrArg)
		wantUnsent(t, c, line, 0, 4, api.ErrArg)
	}
	for _, line := range []int{0, 1, 31} {
		for _, kind := range noWants() {
			wantUnsent(t, c, line, kind, 0, api.ErrArg)
			wantUnsent(t, c, line, kind, 3, api.ErrArg)
			wantUnsent(t, c, line, kind, 4, api.ErrArg)
		}
		for _, word := range noWords() {
			for _, kind := range wants() {
				wantUnsent(t, c, line, kind, word, api.ErrArg)
			}
		}
	}
	// The table is full: that is told behind all others.
	full := made(t, 1, 1, 1)
	wantSent(t, full, 7, mshr.Read, of(api.QRead, 7))
	wantUnsent(t, full, 7, mshr.Evict, 0, api.ErrArg)
	wantUnsent(t, full, 32, mshr.Read, 0, api.ErrArg)
	wantUnsent(t, full, 8, mshr.Read, 4, api.ErrArg)
}

// P14.3: the word of any kind is asked for, also of a Read, which names none; each right one is taken.
func TestWordsOfWant(t *testing.T) {
	for word := range api.Words {
		for _, kind := range wants() {
			c := made(t, 1, 1, 1)
			if _, err := c.Want(1, kind, word, 0); err != nil {
				t.Error(word, kind, err)
			}
		}
	}
}

// P14.3: something is under way for the line, of any kind, there or not: ErrBusy, though the table is full.
func TestWantOfUnderWay(t *testing.T) {
	for _, most := range []int{1, 3} {
		for _, kind := range wants() {
			c := made(t, 2, 1, most)
			wantSent(t, c, 2, mshr.Read, of(api.QRead, 2))
			wantUnsent(t, c, 2, kind, 0, api.ErrBusy)

			c = made(t, 2, 1, most)
			wantSent(t, c, 2, mshr.Write, of(api.QWrite, 2))
			wantUnsent(t, c, 2, kind, 0, api.ErrBusy)

			c = made(t, 2, 1, most)
			bring(t, c, 2, api.Shared, api.Dragon, 0)
			wantSent(t, c, 2, mshr.Update, wordOf(api.QUpdate, 2, 1, 9))
			wantUnsent(t, c, 2, kind, 0, api.ErrBusy)

			c = made(t, 2, 1, most)
			bring(t, c, 2, api.Shared, api.Dragon, 0)
			wantSent(t, c, 4, mshr.Update, of(api.QEvict, 2))
			wantUnsent(t, c, 2, kind, 0, api.ErrBusy)
		}
	}
}

// P14.3: one line of a set at a time is brought; those of other sets, and those that are there, go on beside it.
func TestOneOfASet(t *testing.T) {
	c := made(t, 2, 4, 8)
	bring(t, c, 6, api.Shared, api.Dragon, 0)
	bring(t, c, 8, api.Shared, api.Mesi, 0)
	wantSent(t, c, 6, mshr.Update, wordOf(api.QUpdate, 6, 1, 9))
	wantSent(t, c, 2, mshr.Read, of(api.QRead, 2))
	for _, kind := range wants() {
		wantUnsent(t, c, 4, kind, 0, api.ErrBusy)
		wantUnsent(t, c, 0, kind, 0, api.ErrBusy)
		wantUnsent(t, c, 30, kind, 0, api.ErrBusy)
	}
	wantSent(t, c, 8, mshr.Write, of(api.QWrite, 8))
	wantSent(t, c, 3, mshr.Update, of(api.QWrite, 3))
	wantUnsent(t, c, 31, mshr.Write, 0, api.ErrBusy)
	wantFilled(t, c, data(2, api.Shared, api.Mesi, 0, 1))
	wantSent(t, c, 4, mshr.Read, of(api.QRead, 4))
	wantUnsent(t, c, 31, mshr.Read, 0, api.ErrBusy)
}

// P14.3: one of its set is under way and isn't there: ErrBusy ahead of ErrFull, of ways and of the table.
func TestOneOfASetAheadOfFull(t *testing.T) {
	c := made(t, 1, 2, 2)
	bring(t, c, 1, api.Shared, api.Mesi, 0)
	wantSent(t, c, 2, mshr.Read, of(api.QRead, 2))
	wantSent(t, c, 1, mshr.Write, of(api.QWrite, 1))
	wantUnsent(t, c, 3, mshr.Read, 0, api.ErrBusy)
	// full ways, of which one is under way, and a line under way that was given up
	c = made(t, 1, 2, 2)
	bring(t, c, 1, api.Shared, api.Mesi, 0)
	bring(t, c, 2, api.Shared, api.Mesi, 0)
	wantSent(t, c, 1, mshr.Write, of(api.QWrite, 1))
	wantForward(t, c, of(api.FInval, 1), ack(1, api.Invalid))
	wantUnsent(t, c, 3, mshr.Read, 0, api.ErrBusy)
	wantFilled(t, c, data(3, api.Shared, api.Mesi, 0, 1))
	wantUnsent(t, c, 4, mshr.Read, 0, api.ErrBusy)
	wantSent(t, c, 2, mshr.Write, of(api.QWrite, 2))
	wantUnsent(t, c, 4, mshr.Read, 0, api.ErrBusy)
	wantTableFull(t, c, 3, mshr.Write, 3)
}

// P14.3: an eviction that is under way of a line that was given up holds its set up, too, till the home says that it is gone.
func TestEvictOfGoneHoldsUp(t *testing.T) {
	c := made(t, 2, 1, 3)
	bring(t, c, 1, api.Modified, api.Mesi, 0)
	wantSent(t, c, 3, mshr.Read, of(api.QEvict, 1))
	wantForward(t, c, of(api.FInval, 1), ack(1, api.Invalid, words(1)...))
	wantLines(t, c)
	wantMisses(t, c, mshr.Miss{Line: 1, Kind: mshr.Evict})
	wantUnsent(t, c, 3, mshr.Read, 0, api.ErrBusy)
	wantUnsent(t, c, 1, mshr.Read, 0, api.ErrBusy)
	wantSent(t, c, 0, mshr.Read, of(api.QRead, 0))
	wantGone(t, c, 1)
	wantMisses(t, c, mshr.Miss{Line: 0, Kind: mshr.Read})
	wantSent(t, c, 3, mshr.Read, of(api.QRead, 3))
}

// P14.3: a set that is full: whom plru tells, those under way left out, and ErrFull, where all are.
func TestEvict(t *testing.T) {
	for _, ways := range []int{1, 2, 4, 8} {
		for _, kind := range wants() {
			c, bits := made(t, 2, ways, 8), uint8(0)
			for i := range ways {
				bring(t, c, 2*i+1, api.Shared, api.Dragon, 0)
				bits = plru.Touch(bits, ways, i)
			}
			// what stands in the other set doesn't matter
			wantSent(t, c, 0, mshr.Read, of(api.QRead, 0))
			gone := []int{plru.Victim(bits, ways)}
			for way := range ways {
				if way != gone[0] {
					gone = append(gone, way)
				}
			}
			for i, way := range gone {
				if i == 7 {
					wantTableFull(t, c, 31, kind, 2*way+1)
					wantFilled(t, c, data(0, api.Shared, api.Mesi, 0, 1))
				}
				wantSent(t, c, 31, kind, of(api.QEvict, 2*way+1))
			}
			for _, x := range c.Misses() {
				if x.Line%2 == 1 && x.Kind != mshr.Evict {
					t.Error(x)
				}
			}
			for _, k := range wants() {
				wantUnsent(t, c, 31, k, 0, api.ErrFull)
				wantUnsent(t, c, 29, k, 3, api.ErrFull)
			}
		}
	}
}

// P14.3: lines under way of any kind are pinned: a Write, an Update, an Evict; with none left it is ErrFull,
// ahead of a full table.
func TestPinned(t *testing.T) {
	c := made(t, 1, 4, 3)
	for line := range 4 {
		bring(t, c, line, api.Shared, api.Dragon, 0)
	}
	c.Read(1, 0)
	wantSent(t, c, 2, mshr.Write, of(api.QWrite, 2))
	wantSent(t, c, 0, mshr.Update, wordOf(api.QUpdate, 0, 1, 9))
	wantSent(t, c, 9, mshr.Read, of(api.QEvict, 1))
	// the one that is left may go, but the table is full
	wantTableFull(t, c, 9, mshr.Read, 3)
	c.Answer(of(api.RGone, 2))
	wantSent(t, c, 3, mshr.Write, of(api.QWrite, 3))
	wantTableFull(t, c, 9, mshr.Read, 2)

	c = made(t, 1, 2, 2)
	bring(t, c, 1, api.Shared, api.Dragon, 0)
	bring(t, c, 2, api.Shared, api.Mesi, 0)
	wantSent(t, c, 1, mshr.Update, wordOf(api.QUpdate, 1, 1, 9))
	wantSent(t, c, 2, mshr.Write, of(api.QWrite, 2))
	for _, kind := range wants() {
		wantUnsent(t, c, 3, kind, 0, api.ErrFull)
	}
	wantFilled(t, c, wordOf(api.RApply, 1, 1, 9))
	wantSent(t, c, 3, mshr.Read, of(api.QEvict, 1))
}

// P14.3: a line that is there needs no room, though its set is full.
func TestFullSetAndThere(t *testing.T) {
	c := made(t, 1, 1, 2)
	bring(t, c, 5, api.Shared, api.Mesi, 0)
	wantSent(t, c, 5, mshr.Write, of(api.QWrite, 5))
	wantMisses(t, c, mshr.Miss{Line: 5, Kind: mshr.Write})
}

// P14.3: a line that is fresh, held or dirty is evicted as any other.
func TestEvictAny(t *testing.T) {
	c := made(t, 1, 1, 1)
	ask(t, c, 2)
	wantSent(t, c, 3, mshr.Read, of(api.QEvict, 2))
	for _, s := range states() {
		c := made(t, 1, 1, 1)
		bring(t, c, 2, s, api.Dragon, 0)
		wantForward(t, c, of(api.FHold, 2), ack(2, s))
		wantSent(t, c, 3, mshr.Read, of(api.QEvict, 2))
	}
}

// P14.3: a table that is full, of a line with room, of one that is there, of one that makes another go.
func TestTableFull(t *testing.T) {
	c := made(t, 8, 1, 2)
	bring(t, c, 5, api.Shared, api.Dragon, 0)
	wantSent(t, c, 1, mshr.Read, of(api.QRead, 1))
	wantSent(t, c, 2, mshr.Read, of(api.QRead, 2))
	for _, kind := range wants() {
		wantTableFull(t, c, 3, kind, 3)
		wantTableFull(t, c, 13, kind, 5)
	}
	wantTableFull(t, c, 5, mshr.Write, 5)
	wantTableFull(t, c, 5, mshr.Update, 5)
	wantUnsent(t, c, 5, mshr.Read, 0, api.ErrBusy)
	wantUnsent(t, c, 9, mshr.Read, 0, api.ErrBusy)
	wantUnsent(t, c, 1, mshr.Read, 0, api.ErrBusy)
	wantFilled(t, c, data(2, api.Shared, api.Mesi, 0, 1))
	wantSent(t, c, 13, mshr.Read, of(api.QEvict, 5))
}

// passed is P14.4's part that chapter 13 tells, written out: a row of the table is what a mode makes of a state.
func passed(s, kind, mode int) (to int, along bool) {
	const i, h, e, o, m = api.Invalid, api.Shared, api.Exclusive, api.Owned, api.Modified
	switch kind {
	case api.FShare:
		return [4][5]int{
			api.Mesi:    {i, h, h, h, h},
			api.Moesi:   {i, h, h, o, o},
			api.Dragon:  {i, h, h, o, o},
			api.Migrant: {i, h, h, h, i},
		}[mode][s], s == o || s == m
	case api.FInval, api.FTake:
		return i, s == o || s == m
	case api.FClean:
		return [5]int{i, h, h, h, h}[s], s == o || s == m
	}
	return s, false
}

// P14.4: each forward upon each state, its own mode and the line's being any, the line held and not.
func TestForwards(t *testing.T) {
	for _, s := range states() {
		for _, kind := range forwards() {
			for _, mode := range modes() {
				for _, own := range modes() {
					for _, held := range []bool{false, true} {
						wantPassed(t, s, kind, mode, own, held)
					}
				}
			}
		}
	}
}

func wantPassed(t *testing.T, s, kind, mode, own int, held bool) {
	t.Helper()
	c := made(t, 2, 2, 2)
	bring(t, c, 5, s, own, 8)
	bring(t, c, 7, api.Modified, api.Mesi, 0)
	if held {
		wantForward(t, c, of(api.FHold, 5), ack(5, s))
	}
	to, along := passed(s, kind, mode)
	answer := ack(5, to)
	if along {
		answer = ack(5, to, words(5)...)
	}
	wantForward(t, c, forwardOf(kind, 5, mode), answer)
	wantMisses(t, c)
	wantEntry(t, c, array.Entry{Line: 7, State: api.Modified, Data: lineOf(words(7))})
	if to == api.Invalid {
		wantLines(t, c, 7)
		wantForward(t, c, forwardOf(kind, 5, mode), ack(5, api.Invalid))
		return
	}
	e := array.Entry{Line: 5, State: to, Mode: own, Epoch: 8, Data: lineOf(words(5)), Held: held}
	switch kind {
	case api.FHold:
		e.Held = true
	case api.FUpdate:
		e.Held, e.Data[2] = false, 99
	case api.FClean:
		e.Mode, e.Epoch = mode, 77
	}
	wantLines(t, c, 5, 7)
	wantEntry(t, c, e)
}

// P14.4: of a line that isn't there each forward is answered, and nothing else is done.
func TestForwardOfNotThere(t *testing.T) {
	for _, kind := range forwards() {
		for _, mode := range modes() {
			c := made(t, 2, 1, 3)
			bring(t, c, 0, api.Modified, api.Dragon, 0)
			wantSent(t, c, 1, mshr.Read, of(api.QRead, 1))
			was := told(c)
			for _, line := range []int{1, 2, 31} {
				wantForward(t, c, forwardOf(kind, line, mode), ack(line, api.Invalid))
			}
			if now := told(c); now != was {
				t.Errorf("%d: %s, not %s", kind, now, was)
			}
		}
	}
}

// P14.4: data that are all nought go along, too.
func TestDataOfNought(t *testing.T) {
	c := made(t, 1, 1, 1)
	wantFilled(t, c, data(1, api.Modified, api.Mesi, 0, 0))
	c.Read(1, 0)
	wantForward(t, c, of(api.FInval, 1), api.Msg{Kind: api.RAck, Core: core, Line: 1, Has: true})
}

// P14.4: FHold, then FUpdate: each word, each once; what was Dirty stays so.
func TestHoldAndUpdate(t *testing.T) {
	for _, s := range states() {
		for word := range api.Words {
			c := made(t, 1, 1, 1)
			bring(t, c, 2, s, api.Dragon, 1)
			wantForward(t, c, of(api.FHold, 2), ack(2, s))
			wantForward(t, c, of(api.FHold, 2), ack(2, s))
			wantForward(t, c, wordOf(api.FUpdate, 2, word, math.MaxUint32), ack(2, s))
			e := array.Entry{Line: 2, State: s, Mode: api.Dragon, Epoch: 1, Data: lineOf(words(2))}
			e.Data[word] = math.MaxUint32
			wantEntry(t, c, e)
			wantRead(t, c, 2, word, math.MaxUint32)
			wantForward(t, c, wordOf(api.FUpdate, 2, word, 0), ack(2, s))
			wantRead(t, c, 2, word, 0)
		}
	}
}

// P14.4: FClean's mode and epoch, from the least to the greatest; FShare's mode isn't kept.
func TestModeAndEpoch(t *testing.T) {
	for _, mode := range modes() {
		for _, epoch := range []int{0, 1, 127, 128, 254, 255} {
			c := made(t, 1, 1, 1)
			bring(t, c, 2, api.Modified, (mode+1)%4, 100)
			m := of(api.FClean, 2)
			m.Mode, m.Epoch = mode, epoch
			wantForward(t, c, m, ack(2, api.Shared, words(2)...))
			wantEntry(t, c, array.Entry{Line: 2, State: api.Shared, Mode: mode, Epoch: epoch, Data: lineOf(words(2))})
			wantForward(t, c, forwardOf(api.FShare, 2, api.Dragon), ack(2, api.Shared))
			wantEntry(t, c, array.Entry{Line: 2, State: api.Shared, Mode: mode, Epoch: epoch, Data: lineOf(words(2))})
		}
	}
}

// P14.4: a fresh line gets no forward before it was used, and each one behind that; others' lines do.
func TestForwardOfFresh(t *testing.T) {
	for _, kind := range forwards() {
		for _, s := range []int{api.Shared, api.Exclusive, api.Modified} {
			for _, byWrite := range []bool{false, true} {
				c := made(t, 1, 2, 1)
				bring(t, c, 4, api.Shared, api.Mesi, 0)
				wantFilled(t, c, data(5, s, api.Mesi, 0, words(5)...))
				for range 2 {
					wantNoForward(t, c, forwardOf(kind, 5, api.Mesi))
				}
				c.Read(5, 4)
				c.Write(5, -1, 0)
				wantNoForward(t, c, forwardOf(kind, 5, api.Mesi))
				to, _ := passed(api.Shared, kind, api.Mesi)
				wantForward(t, c, forwardOf(kind, 4, api.Mesi), ack(4, to))
				if byWrite && s == api.Shared {
					wantNoWrite(t, c, 5, 0)
					wantNoForward(t, c, forwardOf(kind, 5, api.Mesi))
					continue
				}
				was := s
				if byWrite {
					wantWrite(t, c, 5, 0, words(5)[0])
					was = api.Modified
				} else {
					wantRead(t, c, 5, 0, words(5)[0])
				}
				to, along := passed(was, kind, api.Mesi)
				answer := ack(5, to)
				if along {
					answer = ack(5, to, words(5)...)
				}
				wantForward(t, c, forwardOf(kind, 5, api.Mesi), answer)
			}
		}
	}
}

// P14.4: a fresh line isn't taken, and its eviction goes on, till it was used.
func TestTakeOfFresh(t *testing.T) {
	c := made(t, 1, 1, 1)
	ask(t, c, 2)
	wantSent(t, c, 3, mshr.Read, of(api.QEvict, 2))
	wantNoForward(t, c, of(api.FTake, 2))
	wantMisses(t, c, mshr.Miss{Line: 2, Kind: mshr.Evict})
	wantRead(t, c, 2, 1, words(2)[1])
	wantForward(t, c, of(api.FTake, 2), ack(2, api.Invalid))
	wantMisses(t, c)
	wantLines(t, c)
}

// P14.4: an FTake ends an Evict, of a line that is there and of one that isn't any more; no other
// forward does, nor does it end anything else, or anything of another line.
func TestTake(t *testing.T) {
	for _, kind := range forwards() {
		for _, there := range []bool{true, false} {
			c := made(t, 2, 1, 4)
			bring(t, c, 2, api.Modified, api.Mesi, 0)
			bring(t, c, 1, api.Modified, api.Mesi, 0)
			wantSent(t, c, 4, mshr.Read, of(api.QEvict, 2))
			wantSent(t, c, 3, mshr.Read, of(api.QEvict, 1))
			if !there {
				wantForward(t, c, of(api.FInval, 2), ack(2, api.Invalid, words(2)...))
			}
			c.Forward(forwardOf(kind, 2, api.Mesi))
			if kind == api.FTake {
				wantMisses(t, c, mshr.Miss{Line: 1, Kind: mshr.Evict})
			} else {
				wantMisses(t, c, mshr.Miss{Line: 1, Kind: mshr.Evict}, mshr.Miss{Line: 2, Kind: mshr.Evict})
			}
		}
		for _, under := range wants() {
			c := made(t, 1, 1, 1)
			if under == mshr.Update {
				bring(t, c, 2, api.Shared, api.Dragon, 0)
			}
			if _, err := c.Want(2, under, 0, 0); err != nil {
				t.Error(err)
			}
			c.Forward(forwardOf(kind, 2, api.Mesi))
			wantMisses(t, c, mshr.Miss{Line: 2, Kind: under})
		}
	}
}

// P14.4: messages that aren't right, of another pool, to another core, of a line that is there and of one that isn't.
func TestForwardOfWrong(t *testing.T) {
	for _, kind := range []int{api.QRead, api.QWrite, api.QUpdate, api.QEvict, api.RAck, api.RFill, api.RGone, api.RApply} {
		wantNowhereForward(t, of(kind, 2))
	}
	wantNowhereForward(t, data(2, api.Shared, api.Mesi, 0))
	wantNowhereForward(t, data(2, api.Modified, api.Mesi, 0, 1, 2))
	wantNowhereForward(t, ack(2, api.Modified, 1))
	for _, kind := range append(past(api.RGone), 0) {
		wantNowhereForward(t, of(kind, 2))
	}
	for _, kind := range forwards() {
		right := forwardOf(kind, 2, api.Dragon)
		for _, n := range append(past(api.MaxCores-1), 0, 1, 2, 4, 5, 63) {
			m := right
			m.Core = n
			wantNowhereForward(t, m)
		}
		for _, line := range noLines() {
			m := right
			m.Line = line
			wantNowhereForward(t, m)
		}
		for _, wrong := range wrongs(right) {
			wantNowhereForward(t, wrong)
		}
	}
}

// wrongs are messages that have a number which can't be, or one that their kind doesn't name.
func wrongs(right api.Msg) []api.Msg {
	var out []api.Msg
	add := func(change func(m *api.Msg)) {
		m := right
		change(&m)
		out = append(out, m)
	}
	for _, n := range past(255) {
		add(func(m *api.Msg) { m.Mode = n })
		add(func(m *api.Msg) { m.Epoch = n })
		add(func(m *api.Msg) { m.Word = n })
		add(func(m *api.Msg) { m.State = n })
	}
	add(func(m *api.Msg) { m.Mode = 4 })
	add(func(m *api.Msg) { m.Word = 4 })
	names := right.Kind == api.FUpdate || right.Kind == api.RApply
	if !names {
		add(func(m *api.Msg) { m.Word = 1 })
		add(func(m *api.Msg) { m.Value = 1 })
	}
	if right.Kind != api.FShare && right.Kind != api.FClean && right.Kind != api.RData {
		add(func(m *api.Msg) { m.Mode = 1 })
	}
	if right.Kind != api.FClean && right.Kind != api.RData {
		add(func(m *api.Msg) { m.Epoch = 1 })
	}
	if right.Kind != api.RData {
		add(func(m *api.Msg) { m.State = api.Shared })
		add(func(m *api.Msg) { m.Has = true })
	}
	if !right.Has {
		add(func(m *api.Msg) { m.Data[3] = 1 })
	}
	return out
}

// wantNowhereForward asks that a message does nothing as a forward, whatever is there or under way.
func wantNowhereForward(t *testing.T, m api.Msg) {
	t.Helper()
	c := made(t, 2, 2, 3)
	wantNoForward(t, c, m)
	bring(t, c, 2, api.Modified, api.Dragon, 3)
	bring(t, c, 0, api.Modified, api.Dragon, 3)
	wantNoForward(t, c, m)
	wantSent(t, c, 4, mshr.Read, of(api.QEvict, 2))
	wantSent(t, c, 1, mshr.Read, of(api.QRead, 1))
	wantNoForward(t, c, m)
}

// P14.5: an RData brings a line: each state that a home grants, each mode, with data; it is fresh, and not held.
func TestDataOfNotThere(t *testing.T) {
	for _, s := range []int{api.Shared, api.Exclusive, api.Modified} {
		for _, mode := range modes() {
			for _, epoch := range []int{0, 1, 255} {
				c := made(t, 2, 2, 2)
				wantSent(t, c, 4, mshr.Write, of(api.QWrite, 4))
				wantSent(t, c, 5, mshr.Read, of(api.QRead, 5))
				wantFilled(t, c, data(4, s, mode, epoch, words(4)...))
				wantEntry(t, c, array.Entry{Line: 4, State: s, Mode: mode, Epoch: epoch, Data: lineOf(words(4)), Fresh: true})
				wantLines(t, c, 4)
				wantMisses(t, c, mshr.Miss{Line: 5, Kind: mshr.Read})
			}
		}
	}
}

// P14.5: an RData of a line that is there: all is the answer's; its words are, if it has any.
func TestDataOfThere(t *testing.T) {
	for _, was := range states() {
		for _, s := range []int{api.Shared, api.Exclusive, api.Modified} {
			for _, held := range []bool{false, true} {
				c := made(t, 1, 2, 2)
				bring(t, c, 4, was, api.Migrant, 9)
				bring(t, c, 5, api.Shared, api.Mesi, 1)
				if held {
					wantForward(t, c, of(api.FHold, 4), ack(4, was))
				}
				wantSent(t, c, 4, mshr.Write, of(api.QWrite, 4))
				wantFilled(t, c, data(4, s, api.Moesi, 10))
				e := array.Entry{Line: 4, State: s, Mode: api.Moesi, Epoch: 10, Data: lineOf(words(4)), Fresh: true}
				wantEntry(t, c, e)
				wantMisses(t, c)
				wantLines(t, c, 4, 5)
				wantFilled(t, c, data(4, s, api.Mesi, 0, words(6)...))
				wantEntry(t, c, array.Entry{Line: 4, State: s, Data: lineOf(words(6)), Fresh: true})
				wantFilled(t, c, data(4, s, api.Mesi, 0, 0))
				wantEntry(t, c, array.Entry{Line: 4, State: s, Fresh: true})
			}
		}
	}
}

// P14.5: an RApply writes its word, and lets a line be read again; it doesn't make it fresh, nor less so.
func TestApply(t *testing.T) {
	for _, s := range states() {
		for word := range api.Words {
			c := made(t, 1, 2, 2)
			bring(t, c, 4, s, api.Dragon, 9)
			wantSent(t, c, 4, mshr.Update, wordOf(api.QUpdate, 4, 1, 9))
			wantForward(t, c, of(api.FHold, 4), ack(4, s))
			wantFilled(t, c, wordOf(api.RApply, 4, word, math.MaxUint32))
			e := array.Entry{Line: 4, State: s, Mode: api.Dragon, Epoch: 9, Data: lineOf(words(4))}
			e.Data[word] = math.MaxUint32
			wantEntry(t, c, e)
			wantMisses(t, c)
			wantRead(t, c, 4, word, math.MaxUint32)
		}
	}
	c := made(t, 1, 1, 1)
	wantFilled(t, c, data(4, api.Shared, api.Dragon, 0, 5))
	wantFilled(t, c, wordOf(api.RApply, 4, 1, 6))
	wantEntry(t, c, array.Entry{Line: 4, State: api.Shared, Mode: api.Dragon, Data: api.Line{5, 6}, Fresh: true})
}

// P14.5: an answer ends what is under way for its line, of any kind; nothing else, and no matter if nothing is.
func TestAnswerEnds(t *testing.T) {
	for _, kind := range append(wants(), mshr.Evict) {
		for _, m := range []api.Msg{data(4, api.Shared, api.Mesi, 0), data(4, api.Shared, api.Mesi, 0, 1), wordOf(api.RApply, 4, 0, 0), of(api.RGone, 4)} {
			c := made(t, 2, 1, 3)
			wantSent(t, c, 1, mshr.Read, of(api.QRead, 1))
			if kind != mshr.Read {
				bring(t, c, 4, api.Shared, api.Dragon, 0)
			}
			if kind == mshr.Evict {
				wantSent(t, c, 6, mshr.Read, of(api.QEvict, 4))
			} else if _, err := c.Want(4, kind, 0, 0); err != nil {
				t.Error(err)
			}
			wantMisses(t, c, mshr.Miss{Line: 1, Kind: mshr.Read}, mshr.Miss{Line: 4, Kind: kind})
			for range 2 {
				_, ok := c.Answer(m)
				if want := m.Kind == api.RGone || m.Has || kind != mshr.Read; ok != want {
					t.Error(kind, m, ok)
				}
				if ok {
					wantMisses(t, c, mshr.Miss{Line: 1, Kind: mshr.Read})
				} else {
					wantMisses(t, c, mshr.Miss{Line: 1, Kind: mshr.Read}, mshr.Miss{Line: 4, Kind: mshr.Read})
				}
			}
		}
	}
}

// P14.5: an RGone ends what is under way; the line stays as it is, there or not, fresh or held.
func TestGone(t *testing.T) {
	c := made(t, 1, 2, 2)
	wantGone(t, c, 3)
	ask(t, c, 3)
	wantGone(t, c, 3)
	bring(t, c, 4, api.Modified, api.Dragon, 0)
	wantForward(t, c, of(api.FHold, 4), ack(4, api.Modified))
	wantSent(t, c, 5, mshr.Read, of(api.QEvict, 3))
	wantSent(t, c, 4, mshr.Write, of(api.QWrite, 4))
	wantGone(t, c, 3)
	wantMisses(t, c, mshr.Miss{Line: 4, Kind: mshr.Write})
	wantGone(t, c, 5)
	wantMisses(t, c, mshr.Miss{Line: 4, Kind: mshr.Write})
	wantGone(t, c, 4)
	wantMisses(t, c)
	wantEntry(t, c, array.Entry{Line: 3, State: api.Shared, Data: lineOf(words(3)), Fresh: true})
	wantEntry(t, c, array.Entry{Line: 4, State: api.Modified, Mode: api.Dragon, Data: lineOf(words(4)), Held: true})
}

// P14.5: of a line that isn't there an RApply, and an RData without data, are refused, line 0 too; what is under way goes on.
func TestAnswerOfNotThere(t *testing.T) {
	for _, line := range []int{0, 1, 30, 31} {
		c := made(t, 2, 2, 2)
		for range 2 {
			for word := range api.Words {
				wantNoAnswer(t, c, wordOf(api.RApply, line, word, 0))
				wantNoAnswer(t, c, wordOf(api.RApply, line, word, 5))
			}
			for _, s := range []int{api.Shared, api.Exclusive, api.Modified} {
				wantNoAnswer(t, c, data(line, s, api.Dragon, 1))
			}
			c.Want(line, mshr.Write, 0, 0)
			wantMisses(t, c, mshr.Miss{Line: line, Kind: mshr.Write})
		}
	}
}

// P14.5: an RData of a line for which its set has no room is refused, and ends nothing; one of another set isn't.
func TestAnswerWithoutRoom(t *testing.T) {
	c := made(t, 2, 2, 3)
	wantSent(t, c, 4, mshr.Read, of(api.QRead, 4))
	for _, line := range []int{0, 2, 1} {
		bring(t, c, line, api.Shared, api.Mesi, 0)
	}
	wantNoAnswer(t, c, data(4, api.Shared, api.Mesi, 0, 1))
	wantMisses(t, c, mshr.Miss{Line: 4, Kind: mshr.Read})
	wantFilled(t, c, data(5, api.Shared, api.Mesi, 0, 1))
	wantNoAnswer(t, c, data(7, api.Modified, api.Mesi, 0, 1))
	wantForward(t, c, of(api.FInval, 2), ack(2, api.Invalid))
	wantFilled(t, c, data(4, api.Shared, api.Mesi, 0, 1))
	wantLines(t, c, 0, 4, 1, 5)
}

// P14.5: messages that aren't right, of another pool, to another core.
func TestAnswerOfWrong(t *testing.T) {
	for _, kind := range append(forwards(), api.QRead, api.QWrite, api.QUpdate, api.QEvict, api.RAck, api.RFill) {
		wantNowhereAnswer(t, of(kind, 2))
	}
	// What a core says of a forward looks like a home's answer, but for its pool.
	for _, state := range append(states(), api.Invalid) {
		wantNowhereAnswer(t, ack(2, state))
		wantNowhereAnswer(t, ack(2, state, 1, 2))
	}
	for _, kind := range append(past(api.RGone), 0) {
		wantNowhereAnswer(t, of(kind, 2))
		m := data(2, api.Shared, api.Mesi, 0, 1)
		m.Kind = kind
		wantNowhereAnswer(t, m)
	}
	for _, s := range append(past(api.Modified), api.Invalid, api.Owned) {
		wantNowhereAnswer(t, data(2, s, api.Mesi, 0))
		wantNowhereAnswer(t, data(2, s, api.Mesi, 0, 1))
	}
	for _, right := range []api.Msg{data(2, api.Shared, api.Dragon, 2), data(2, api.Modified, api.Mesi, 0, 1), wordOf(api.RApply, 2, 1, 5), of(api.RGone, 2)} {
		for _, n := range append(past(api.MaxCores-1), 0, 1, 2, 4, 5, 63) {
			m := right
			m.Core = n
			wantNowhereAnswer(t, m)
		}
		for _, line := range noLines() {
			m := right
			m.Line = line
			wantNowhereAnswer(t, m)
		}
		for _, wrong := range wrongs(right) {
			wantNowhereAnswer(t, wrong)
		}
	}
}

// wantNowhereAnswer asks that a message does nothing as an answer, whatever is there or under way.
func wantNowhereAnswer(t *testing.T, m api.Msg) {
	t.Helper()
	c := made(t, 2, 2, 3)
	wantNoAnswer(t, c, m)
	wantSent(t, c, 2, mshr.Write, of(api.QWrite, 2))
	wantNoAnswer(t, c, m)
	wantFilled(t, c, data(2, api.Modified, api.Dragon, 3, 1))
	wantNoAnswer(t, c, m)
	wantSent(t, c, 2, mshr.Update, wordOf(api.QUpdate, 2, 1, 9))
	wantNoAnswer(t, c, m)
}
