package cache_test

import (
	"slices"
	"testing"

	"assent/api"
	"assent/array"
	"assent/cache"
	"assent/mshr"
)

// plain is a cache told again by the chapter's words.
type plain struct {
	sets, mshrs int
	lines       *array.Array
	under       map[int]int
}

func (p *plain) there(line int) bool {
	_, ok := p.lines.Get(line)
	return ok
}

func (p *plain) put(e array.Entry) bool { return p.lines.Put(e) == nil }

func (p *plain) read(line, word int) (uint32, bool) {
	e, there := p.lines.Get(line)
	if !there || e.Held || word < 0 || word > 3 {
		return 0, false
	}
	e.Fresh = false
	p.put(e)
	p.lines.Touch(line)
	return e.Data[word], true
}

func (p *plain) write(line, word int, v uint32) bool {
	e, there := p.lines.Get(line)
	if !there || e.Held || word < 0 || word > 3 || e.State == api.Shared || e.State == api.Owned {
		return false
	}
	e.Fresh, e.State, e.Data[word] = false, api.Modified, v
	p.put(e)
	p.lines.Touch(line)
	return true
}

// want tells the request, or else an error; of a table that is full also the line that it refused.
func (p *plain) want(line, kind, word int, v uint32) (api.Msg, error, int) {
	if line < 0 || line > 31 || kind < mshr.Read || kind > mshr.Update || word < 0 || word > 3 {
		return api.Msg{}, api.ErrArg, -1
	}
	if p.under[line] != 0 || p.there(line) && kind == mshr.Read {
		return api.Msg{}, api.ErrBusy, -1
	}
	pinned := []int{}
	for other, k := range p.under {
		if k == 0 {
			continue
		}
		pinned = append(pinned, other)
		if !p.there(line) && !p.there(other) && other%p.sets == line%p.sets {
			return api.Msg{}, api.ErrBusy, -1
		}
	}
	m := api.Msg{Core: core, Line: line}
	if !p.lines.Room(line) {
		m.Line = p.lines.Victim(line, pinned...)
		if m.Line == -1 {
			return api.Msg{}, api.ErrFull, -1
		}
		m.Kind, kind = api.QEvict, mshr.Evict
	} else if e, _ := p.lines.Get(line); kind == mshr.Update && e.State != api.Invalid && e.Mode == api.Dragon {
		m.Kind, m.Word, m.Value = api.QUpdate, word, v
	} else if kind == mshr.Read {
		m.Kind = api.QRead
	} else {
		m.Kind, kind = api.QWrite, mshr.Write
	}
	if len(pinned) == p.mshrs {
		return api.Msg{}, api.ErrFull, m.Line
	}
	p.under[m.Line] = kind
	return m, nil, -1
}

// forward takes right forwards to this core alone.
func (p *plain) forward(m api.Msg) (api.Msg, bool) {
	e, there := p.lines.Get(m.Line)
	if there && e.Fresh {
		return api.Msg{}, false
	}
	if m.Kind == api.FTake && p.under[m.Line] == mshr.Evict {
		delete(p.under, m.Line)
	}
	out := api.Msg{Kind: api.RAck, Core: core, Line: m.Line}
	if !there {
		return out, true
	}
	out.State, out.Has = passed(e.State, m.Kind, m.Mode)
	if out.Has {
		out.Data = e.Data
	}
	e.State = out.State
	if e.State == api.Invalid {
		p.lines.Drop(m.Line)
		return out, true
	}
	if m.Kind == api.FHold {
		e.Held = true
	}
	if m.Kind == api.FUpdate {
		e.Held, e.Data[m.Word] = false, m.Value
	}
	if m.Kind == api.FClean {
		e.Mode, e.Epoch = m.Mode, m.Epoch
	}
	p.put(e)
	return out, true
}

// answer takes right answers to this core alone.
func (p *plain) answer(m api.Msg) (api.Msg, bool) {
	e, there := p.lines.Get(m.Line)
	switch {
	case m.Kind == api.RGone:
		delete(p.under, m.Line)
		return api.Msg{}, true
	case !there && (m.Kind == api.RApply || !m.Has):
		return api.Msg{}, false
	case m.Kind == api.RApply:
		e.Data[m.Word] = m.Value
	default:
		e = array.Entry{Line: m.Line, State: m.State, Mode: m.Mode, Epoch: m.Epoch, Data: e.Data, Fresh: true}
		if m.Has {
			e.Data = m.Data
		}
	}
	e.Held = false
	if !p.put(e) {
		return api.Msg{}, false
	}
	p.lines.Touch(m.Line)
	delete(p.under, m.Line)
	return api.Msg{Kind: api.RFill, Core: core, Line: m.Line}, true
}

func (p *plain) misses() []mshr.Miss {
	var out []mshr.Miss
	for line := range 32 {
		if k := p.under[line]; k != 0 {
			out = append(out, mshr.Miss{Line: line, Kind: k})
		}
	}
	return out
}

// draw is a row of numbers that is the same in each run.
type draw uint64

func (d *draw) below(n int) int {
	*d = *d*6364136223846793005 + 1442695040888963407
	return int(uint64(*d) >> 33 % uint64(n))
}

// one tells true once in n times.
func (d *draw) one(n int) bool { return d.below(n) == 0 }

// data draws the words of a line.
func (d *draw) data() api.Line {
	var out api.Line
	for i := range out {
		out[i] = uint32(d.below(1 << 31))
	}
	return out
}

// forward draws a right forward of a line.
func (d *draw) forward(line int) api.Msg {
	m := of(forwards()[d.below(6)], line)
	switch m.Kind {
	case api.FShare:
		m.Mode = d.below(4)
	case api.FClean:
		m.Mode, m.Epoch = d.below(4), d.below(256)
	case api.FUpdate:
		m.Word, m.Value = d.below(4), uint32(d.below(1<<31))
	}
	return m
}

// answer draws a right answer of a line.
func (d *draw) answer(line int) api.Msg {
	switch d.below(5) {
	case 0:
		return of(api.RGone, line)
	case 1:
		return wordOf(api.RApply, line, d.below(4), uint32(d.below(1<<31)))
	}
	m := data(line, []int{api.Shared, api.Exclusive, api.Modified}[d.below(3)], d.below(4), d.below(256))
	if m.Has = !d.one(3); m.Has {
		m.Data = d.data()
	}
	return m
}

// step does one thing to both, and tells whether they answered the same; counts are how often each kind of thing was done.
func step(c *cache.Cache, p *plain, d *draw, lines int, counts []int) bool {
	line, word, v := d.below(lines), d.below(4), uint32(d.below(1<<31))
	if d.one(40) {
		word = []int{-1, 4}[d.below(2)]
	}
	switch what := d.below(9); what {
	case 0, 1:
		got, ok := c.Read(line, word)
		want, is := p.read(line, word)
		count(counts, 0, is)
		return got == want && ok == is
	case 2:
		is := p.write(line, word, v)
		count(counts, 1, is)
		return c.Write(line, word, v) == is
	case 3, 4, 5:
		kind := 1 + d.below(3)
		if d.one(40) {
			line, kind = d.below(34)-1, d.below(6)
		}
		return sameWant(c, p, line, kind, word, v, counts)
	case 6:
		m := d.forward(line)
		got, ok := c.Forward(m)
		want, is := p.forward(m)
		count(counts, 2, is)
		count(counts, 3, !is)
		return got == want && ok == is
	default:
		m := d.answer(line)
		got, ok := c.Answer(m)
		want, is := p.answer(m)
		count(counts, 4, is)
		count(counts, 5, !is)
		return got == want && ok == is
	}
}

func count(counts []int, which int, so bool) {
	if so {
		counts[which]++
	}
}

// sameWant asks both for a line.
func sameWant(c *cache.Cache, p *plain, line, kind, word int, v uint32, counts []int) bool {
	got, err := c.Want(line, kind, word, v)
	want, which, below := p.want(line, kind, word, v)
	count(counts, 6, which == nil && want.Kind != api.QEvict)
	count(counts, 7, want.Kind == api.QEvict)
	count(counts, 8, which == api.ErrBusy)
	count(counts, 9, which == api.ErrFull && below == -1)
	count(counts, 10, below != -1)
	count(counts, 11, want.Kind == api.QUpdate)
	wanted := error(api.Fault{Op: "cache.Want", At: line, Err: which})
	if which == nil {
		wanted = nil
	}
	if below != -1 {
		wanted = api.Fault{Op: "cache.Want", At: line, Err: api.Fault{Op: "mshr.Add", At: below, Err: which}}
	}
	return got == want && err == wanted
}

// P14.1 to P14.5: long rows of calls, held against the cache told again by the words.
func TestLongRows(t *testing.T) {
	counts := make([]int, 12)
	for _, sets := range []int{1, 2, 8} {
		for _, ways := range []int{1, 2, 4, 8} {
			for _, mshrs := range []int{1, 2, 3, 8} {
				c, d := made(t, sets, ways, mshrs), draw(sets*100+ways*10+mshrs)
				lines, err := array.New(sets, ways)
				if err != nil {
					t.Fatal(err)
				}
				p := &plain{sets, mshrs, lines, map[int]int{}}
				for i := range 2000 {
					if !step(c, p, &d, min(32, 2*sets*ways+1), counts) || !same(c, p) {
						t.Fatalf("%d sets, %d ways, %d mshrs, step %d: %s", sets, ways, mshrs, i, told(c))
					}
				}
			}
		}
	}
	if slices.Min(counts) < 100 {
		t.Error("too few of one kind:", counts)
	}
}

// same tells whether both have the same lines, and the same under way.
func same(c *cache.Cache, p *plain) bool {
	for line := range 32 {
		e, ok := c.Peek(line)
		if want, is := p.lines.Get(line); e != want || ok != is {
			return false
		}
	}
	return slices.Equal(c.Entries(), p.lines.List()) && slices.Equal(c.Misses(), p.misses())
}

// side is a cache between a core and homes that keep to the protocol: what was asked of
// these and isn't answered yet, which lines were used since they came, and which are held.
type side struct {
	t      *testing.T
	c      *cache.Cache
	asked  map[int]api.Msg
	used   [32]bool
	counts []int
}

// want lets the core want something.
func (s *side) want(d *draw, line int) {
	m, err := s.c.Want(line, 1+d.below(3), d.below(4), 5)
	if err != nil {
		return
	}
	if _, twice := s.asked[m.Line]; twice {
		s.t.Fatalf("%d is asked for twice", m.Line)
	}
	s.asked[m.Line] = m
}

// use lets the core read or write a word.
func (s *side) use(d *draw, line int) {
	ok := false
	if d.one(2) {
		_, ok = s.c.Read(line, d.below(4))
	} else {
		ok = s.c.Write(line, d.below(4), 7)
	}
	s.used[line] = s.used[line] || ok
}

// forward lets a home send a forward: it is refused just while the line is fresh, and unused.
func (s *side) forward(m api.Msg) bool {
	was := told(s.c)
	e, there := s.c.Peek(m.Line)
	if e.Fresh == s.used[m.Line] && there {
		s.t.Fatalf("%d is %+v; used: %v", m.Line, e, s.used[m.Line])
	}
	_, ok := s.c.Forward(m)
	if ok != !e.Fresh || !ok && told(s.c) != was {
		s.t.Fatalf("Forward(%+v) of %+v is %v", m, e, ok)
	}
	count(s.counts, 0, ok && there)
	count(s.counts, 1, !ok)
	return ok
}

// answer lets a home answer what was asked of a line: there is room for it.
func (s *side) answer(d *draw, line int) {
	m, ok := s.asked[line]
	if !ok {
		return
	}
	e, there := s.c.Peek(line)
	switch {
	case m.Kind == api.QEvict && there:
		if !s.forward(of(api.FTake, line)) {
			return
		}
	case m.Kind == api.QEvict:
		s.taken(of(api.RGone, line))
	case m.Kind == api.QUpdate && there && e.Mode == api.Dragon:
		if !s.forward(of(api.FHold, line)) {
			return
		}
		s.taken(wordOf(api.RApply, line, m.Word, m.Value))
	default:
		granted := api.Modified
		if m.Kind == api.QRead {
			granted = []int{api.Shared, api.Exclusive, api.Modified}[d.below(3)]
		}
		out := data(line, granted, d.below(4), d.below(256))
		if out.Has = !there; out.Has {
			out.Data = d.data()
		}
		s.taken(out)
		s.used[line] = false
	}
	for _, x := range s.c.Misses() {
		if x.Line == line {
			s.t.Fatalf("%d is answered, and under way", line)
		}
	}
	delete(s.asked, line)
}

// taken asks that an answer is taken in.
func (s *side) taken(m api.Msg) {
	if _, ok := s.c.Answer(m); !ok {
		s.t.Fatalf("Answer(%+v) is refused: %s", m, told(s.c))
	}
	count(s.counts, 2, m.Has)
	count(s.counts, 3, m.Kind == api.RData && !m.Has)
	count(s.counts, 4, m.Kind == api.RApply)
	count(s.counts, 5, m.Kind == api.RGone)
}

// step does one thing that concerns a line.
func (s *side) step(d *draw, line int) {
	switch d.below(8) {
	case 0, 1, 2:
		s.want(d, line)
	case 3, 4:
		s.use(d, line)
	case 5:
		// A home takes only what was to go.
		if m := d.forward(line); m.Kind != api.FTake {
			s.forward(m)
		}
	default:
		s.answer(d, line)
	}
}

// wantKept asks that of the lines that were there all are that are not used yet, and fresh.
func (s *side) wantKept(was []array.Entry) {
	for _, e := range was {
		if now, there := s.c.Peek(e.Line); !s.used[e.Line] && (!there || !now.Fresh) {
			s.t.Fatalf("%+v, unused, became %+v, %v", e, now, there)
		}
	}
}

// P14.6: along long rows of calls, at homes that answer what is asked: a fresh line is
// given up only when it was used, and there is room for each answer.
func TestWhatFollows(t *testing.T) {
	counts := make([]int, 6)
	for _, sets := range []int{1, 2, 4} {
		for _, ways := range []int{1, 2, 4} {
			for _, mshrs := range []int{1, 2, 3, 8} {
				s := &side{t: t, c: made(t, sets, ways, mshrs), asked: map[int]api.Msg{}, counts: counts}
				d, lines := draw(sets*100+ways*10+mshrs), 2*sets*ways
				for range 3000 {
					was := s.c.Entries()
					s.step(&d, d.below(lines))
					s.wantKept(was)
				}
			}
		}
	}
	if slices.Min(counts) < 100 {
		t.Error("too few of one kind:", counts)
	}
}
