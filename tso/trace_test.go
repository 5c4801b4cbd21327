package tso_test

import (
	"slices"
	"testing"

	"assent/api"
	"assent/fault"
	"assent/tso"
)

// plain is the model told in another way: all events that were taken. What
// waits and what stands in memory is read off them, each time anew.
type plain struct {
	cores, words int
	taken        []api.Event
}

// memory goes through the commits and the swaps that were done.
func (p *plain) memory() []uint32 {
	out := make([]uint32, p.words)
	for _, e := range p.taken {
		if e.Kind == api.ECommit {
			out[e.Addr] = e.Value
		}
		if e.Kind == api.ECas && e.Done {
			out[e.Addr] = e.New
		}
	}
	return out
}

// waits are a core's stores, but as many as it committed.
func (p *plain) waits(core int) []api.Event {
	var stores []api.Event
	gone := 0
	for _, e := range p.taken {
		switch {
		case e.Core == core && e.Kind == api.EStore:
			stores = append(stores, e)
		case e.Core == core && e.Kind == api.ECommit:
			gone++
		}
	}
	return stores[gone:]
}

// reads is memory with a core's stores written over it, the eldest first.
func (p *plain) reads(core int) []uint32 {
	out := p.memory()
	for _, e := range p.waits(core) {
		out[e.Addr] = e.Value
	}
	return out
}

// refusal is P10.3's table, word by word.
func (p *plain) refusal(e api.Event) error {
	if e.Kind < 1 || e.Kind > 5 || e.Core < 0 || e.Core >= p.cores || e.Kind != 5 && (e.Addr < 0 || e.Addr >= p.words) {
		return api.ErrArg
	}
	waits := p.waits(e.Core)
	switch {
	case e.Kind == api.ELoad && p.reads(e.Core)[e.Addr] != e.Value:
		return api.ErrValue
	case e.Kind == api.ECommit && len(waits) == 0:
		return api.ErrOrder
	case e.Kind == api.ECommit && (waits[0].Addr != e.Addr || waits[0].Value != e.Value):
		return api.ErrValue
	case (e.Kind == api.ECas || e.Kind == api.EFence) && len(waits) > 0:
		return api.ErrOrder
	case e.Kind == api.ECas && p.memory()[e.Addr] != e.Value:
		return api.ErrValue
	}
	return nil
}

// step asks a model to do what the plain one does, and tells whether it was taken.
func (p *plain) step(t *testing.T, m *tso.Model, e api.Event) bool {
	t.Helper()
	which := p.refusal(e)
	err := m.Step(e)
	if which == nil {
		if err != nil {
			t.Fatalf("%v behind %v: %v", e, p.taken, err)
		}
		p.taken = append(p.taken, e)
		return true
	}
	if f, ok := fault.Find(err); !ok || f != (api.Fault{Op: "tso.Step", At: e.Core, Err: which}) {
		t.Fatalf("%v behind %v: %v, not %v", e, p.taken, err, which)
	}
	return false
}

// wantSame asks that a model tells what the plain one does.
func (p *plain) wantSame(t *testing.T, m *tso.Model) {
	t.Helper()
	wantMemory(t, m, p.memory()...)
	for core := range p.cores {
		if got, want := m.Waiting(core), len(p.waits(core)); got != want {
			t.Errorf("of core %d %d wait, not %d", core, got, want)
		}
		for addr, v := range p.reads(core) {
			wantRead(t, m, core, addr, v, true)
		}
	}
}

// events are all of two cores, two words and two values, with some that are none.
func events() []api.Event {
	l := []api.Event{{}, {Kind: 6}, fence(2), fence(-1), store(0, 2, 0), load(1, -1, 0)}
	for core := range 2 {
		l = append(l, fence(core))
		for addr := range 2 {
			for v := range uint32(2) {
				l = append(l, load(core, addr, v), store(core, addr, v), commit(core, addr, v))
				l = append(l, cas(core, addr, v, 1-v, true), cas(core, addr, v, 1-v, false))
			}
		}
	}
	return l
}

// P10.1 to P10.5: all rows of a few events, each one tried on a twin at each place.
func TestAllRows(t *testing.T) {
	all := events()
	var walk func(m *tso.Model, p plain, more int)
	walk = func(m *tso.Model, p plain, more int) {
		p.wantSame(t, m)
		if more == 0 || t.Failed() {
			return
		}
		for _, e := range all {
			x, q := m.Twin(), plain{p.cores, p.words, slices.Clone(p.taken)}
			if q.step(t, x, e) {
				walk(x, q, more-1)
			} else {
				q.wantSame(t, x)
			}
		}
		p.wantSame(t, m)
	}
	walk(made(t, 2, 2), plain{cores: 2, words: 2}, 4)
}

// draw is a row of numbers that is the same in each run.
type draw uint64

func (d *draw) below(n int) int {
	*d = *d*6364136223846793005 + 1442695040888963407
	return int(uint64(*d) >> 33 % uint64(n))
}

// likely is an event that mostly can be done: of what the core reads or has waiting.
func (d *draw) likely(p *plain) api.Event {
	e := api.Event{Kind: 1 + d.below(5), Core: d.below(p.cores), Addr: d.below(p.words), Value: uint32(d.below(3)), New: uint32(d.below(3))}
	e.Done = d.below(2) == 0
	switch waits := p.waits(e.Core); {
	case d.below(6) == 0:
	case e.Kind == api.ECommit && len(waits) > 0:
		e.Addr, e.Value = waits[0].Addr, waits[0].Value
	case e.Kind == api.ELoad || e.Kind == api.ECas:
		e.Value = p.reads(e.Core)[e.Addr]
	}
	return e
}

// P10.1 to P10.5: long rows of events, held against the model told in another way, and by Replay.
func TestLongRows(t *testing.T) {
	for i, c := range [][2]int{{1, 1}, {1, 3}, {2, 2}, {3, 4}, {4, 1}, {api.MaxCores, mostWords}} {
		p, d := &plain{cores: c[0], words: c[1]}, draw(i)
		m := made(t, c[0], c[1])
		for n := range 600 {
			e := d.likely(p)
			before := slices.Clone(p.taken)
			if !p.step(t, m, e) {
				wantReplayRefused(t, c[0], c[1], len(before), p.refusal(e), append(before, e, fence(0))...)
			}
			if n%20 == 0 || c[0] < api.MaxCores {
				p.wantSame(t, m)
			}
			if n%7 == 0 {
				m = m.Twin()
			}
		}
		p.wantSame(t, m)
		wantReplay(t, c[0], c[1], p.memory(), p.taken...)
	}
}

// P10.5: a core reads its own last store, others read what was committed; commits come as the stores did.
func TestOwnAndOthers(t *testing.T) {
	m, d := made(t, 3, 3), draw(9)
	own := [3]map[int]uint32{{}, {}, {}}
	var stored, committed [3][]api.Event
	for i := range 3000 {
		core := d.below(3)
		if behind := stored[core][len(committed[core]):]; len(behind) > 0 && d.below(2) == 0 {
			e := behind[0]
			take(t, m, commit(core, e.Addr, e.Value))
			committed[core] = append(committed[core], e)
			if len(behind) == 1 {
				clear(own[core])
			}
			for other := range 3 {
				if len(own[other]) == 0 {
					wantRead(t, m, other, e.Addr, e.Value, true)
				}
			}
			continue
		}
		e := store(core, d.below(3), uint32(i)+1)
		before, _ := m.Read((core+1)%3, e.Addr)
		take(t, m, e)
		stored[core], own[core][e.Addr] = append(stored[core], e), e.Value
		wantRead(t, m, core, e.Addr, e.Value, true)
		wantRead(t, m, (core+1)%3, e.Addr, before, true)
	}
}

// The classic runs: what TSO lets and what it doesn't.
func TestLitmus(t *testing.T) {
	fenced := []api.Event{store(0, 0, 1), commit(0, 0, 1), fence(0), store(1, 1, 1), commit(1, 1, 1), fence(1), load(0, 1, 1)}
	wantReplayRefused(t, 2, 2, 7, api.ErrValue, append(slices.Clone(fenced), load(1, 0, 0))...)
	wantReplay(t, 2, 2, []uint32{1, 1}, append(fenced, load(1, 0, 1))...)
	// Who reads the flag reads the message: stores don't pass each other.
	message := []api.Event{store(0, 0, 1), store(0, 1, 1)}
	wantReplayRefused(t, 2, 2, 2, api.ErrValue, append(slices.Clone(message), commit(0, 1, 1))...)
	wantReplayRefused(t, 2, 2, 5, api.ErrValue, append(slices.Clone(message), commit(0, 0, 1), commit(0, 1, 1), load(1, 1, 1), load(1, 0, 0))...)
	// Each reads its own store ahead of the other's.
	wantReplay(t, 2, 2, []uint32{0, 0}, store(0, 0, 1), load(0, 0, 1), load(0, 1, 0), store(1, 1, 1), load(1, 1, 1), load(1, 0, 0))
	// Four that add by compare-and-swap lose none.
	var adds []api.Event
	for i := range uint32(40) {
		adds = append(adds, cas(int(i+1)%4, 0, i, i+9, false), cas(int(i)%4, 0, i, i+1, true))
	}
	wantReplay(t, 4, 1, []uint32{40}, adds...)
}
