package tso_test

import (
	"errors"
	"fmt"
	"math"
	"slices"
	"strconv"
	"strings"
	"testing"

	"assent/api"
	"assent/fault"
	"assent/tso"
)

const (
	mostWords = api.MaxLines * api.Words
	great     = math.MaxUint32
)

func load(core, addr int, v uint32) api.Event {
	return api.Event{Kind: api.ELoad, Core: core, Addr: addr, Value: v}
}

func store(core, addr int, v uint32) api.Event {
	return api.Event{Kind: api.EStore, Core: core, Addr: addr, Value: v}
}

func commit(core, addr int, v uint32) api.Event {
	return api.Event{Kind: api.ECommit, Core: core, Addr: addr, Value: v}
}

func cas(core, addr int, v, next uint32, done bool) api.Event {
	return api.Event{Kind: api.ECas, Core: core, Addr: addr, Value: v, New: next, Done: done}
}

func fence(core int) api.Event { return api.Event{Kind: api.EFence, Core: core} }

// made is a model that has taken those events.
func made(t *testing.T, cores, words int, l ...api.Event) *tso.Model {
	t.Helper()
	m, err := tso.New(cores, words)
	if m == nil || err != nil {
		t.Fatalf("New(%d, %d) is %v, %v", cores, words, m, err)
	}
	take(t, m, l...)
	return m
}

func take(t *testing.T, m *tso.Model, l ...api.Event) {
	t.Helper()
	for i, e := range l {
		if err := m.Step(e); err != nil {
			t.Fatalf("event %d, %+v: %v", i, e, err)
		}
	}
}

// wantOnly asks that an error is that one, and no other one of api's.
func wantOnly(t *testing.T, err, which error) {
	t.Helper()
	others := []error{
		api.ErrArg, api.ErrLong, api.ErrShort, api.ErrForm, api.ErrTail, api.ErrFull,
		api.ErrBusy, api.ErrNone, api.ErrOrder, api.ErrValue,
	}
	others = slices.DeleteFunc(others, func(e error) bool { return e == which })
	if !errors.Is(err, which) || fault.Any(err, others...) != -1 {
		t.Errorf("%v is not %v, or another error too", err, which)
	}
}

func wantRefused(t *testing.T, err error, op string, at int, which error) {
	t.Helper()
	if f, ok := fault.Find(err); !ok || f != (api.Fault{Op: op, At: at, Err: which}) || fault.Depth(err) != 2 {
		t.Errorf("%#v: not %s, %d, %v", err, op, at, which)
	}
	wantOnly(t, err, which)
}

// wantStepRefused asks that an event is refused, and that nothing is done.
func wantStepRefused(t *testing.T, m *tso.Model, e api.Event, which error) {
	t.Helper()
	was := told(m)
	wantRefused(t, m.Step(e), "tso.Step", e.Core, which)
	if now := told(m); now != was {
		t.Errorf("refused %+v, and %s became %s", e, was, now)
	}
}

func wantReplayRefused(t *testing.T, cores, words, at int, which error, l ...api.Event) {
	t.Helper()
	memory, err := tso.Replay(cores, words, l...)
	want := api.Fault{Op: "tso.Replay", At: at, Err: api.Fault{Op: "tso.Step", At: l[at].Core, Err: which}}
	if f, ok := fault.Find(err); !ok || f != want || fault.Depth(err) != 3 || len(memory) != 0 {
		t.Errorf("%v, %#v: not %#v", memory, err, want)
	}
	if ops := fault.Ops(err); !slices.Equal(ops, []string{"tso.Replay", "tso.Step"}) {
		t.Error(ops)
	}
	wantOnly(t, err, which)
}

func wantReplay(t *testing.T, cores, words int, want []uint32, l ...api.Event) {
	t.Helper()
	if memory, err := tso.Replay(cores, words, l...); err != nil || !slices.Equal(memory, want) {
		t.Errorf("%v, %v: not %v", memory, err, want)
	}
}

func wantRead(t *testing.T, m *tso.Model, core, addr int, want uint32, is bool) {
	t.Helper()
	if v, ok := m.Read(core, addr); v != want || ok != is {
		t.Errorf("Read(%d, %d) is %d, %v, not %d, %v", core, addr, v, ok, want, is)
	}
}

func wantMemory(t *testing.T, m *tso.Model, want ...uint32) {
	t.Helper()
	if got := m.Memory(); !slices.Equal(got, want) {
		t.Errorf("memory is %v, not %v", got, want)
	}
}

func wantWaiting(t *testing.T, m *tso.Model, want ...int) {
	t.Helper()
	for core, n := range want {
		if got := m.Waiting(core); got != n {
			t.Errorf("of core %d %d wait, not %d", core, got, n)
		}
	}
}

// told is all that a model tells, with what each core reads.
func told(m *tso.Model) string {
	var out strings.Builder
	memory := m.Memory()
	fmt.Fprint(&out, memory)
	for core := -1; core <= api.MaxCores; core++ {
		fmt.Fprint(&out, " ", m.Waiting(core), ":")
		for addr := -1; addr <= len(memory); addr++ {
			if v, ok := m.Read(core, addr); ok {
				out.WriteString(" " + strconv.Itoa(int(v)))
			}
		}
	}
	return out.String()
}

// words are so many, nought.
func words(n int) []uint32 { return make([]uint32, n) }

// noCounts are numbers that are neither cores' nor words'; some are right ones, once their upper bits are cut off.
func noCounts(most int) []int {
	return []int{
		0, -1, -2, -most, -most - 1, most + 1, most + 2, 2 * most, 1 << 8, 1<<8 + 1, 1<<16 + 1, 1 << 31, 1<<31 + 1, 1 << 32, 1<<32 + 1,
		1<<32 + most, -1<<32 + 1, -1 << 31, math.MaxInt, math.MinInt, math.MinInt + 1, math.MinInt + most,
	}
}

// noPlaces are numbers that are no place of so many.
func noPlaces(n int) []int {
	return []int{
		-1, -2, -n, -n - 1, n, n + 1, 2 * n, 1<<8 + n, 1<<16 + n, 1 << 31, 1 << 32, 1<<32 + n - 1, -1 << 32, -1<<32 + n - 1, 1 << 62,
		math.MaxInt, math.MaxInt - 1, math.MinInt, math.MinInt + 1, math.MinInt + n - 1,
	}
}

// noKinds are numbers of no kind of event.
func noKinds() []int {
	return []int{
		0, -1, -2, -3, -4, -5, -6, 6, 7, 8, 9, 10, 255, 256, 257, 261, 1<<16 + 1, 1 << 31, 1 << 32, 1<<32 + 1, 1<<32 + 5, -1<<32 + 1,
		1<<62 + 2, math.MaxInt, math.MinInt, math.MinInt + 1, math.MinInt + 5,
	}
}

// kinds are all that there are.
func kinds() []int { return []int{api.ELoad, api.EStore, api.ECommit, api.ECas, api.EFence} }

// The chapter's table of runs.
func TestRuns(t *testing.T) {
	both := []api.Event{store(0, 0, 1), store(1, 1, 1), load(0, 1, 0), load(1, 0, 0)}
	wantReplay(t, 2, 2, words(2), both...)
	wantReplayRefused(t, 2, 2, 4, api.ErrValue, append(slices.Clone(both), load(0, 0, 0))...)
	wantReplayRefused(t, 2, 2, 4, api.ErrValue, append(slices.Clone(both), commit(1, 0, 1))...)
	wantReplayRefused(t, 2, 2, 4, api.ErrOrder, append(slices.Clone(both), cas(0, 0, 0, 1, true))...)
}

// P10.1: each number of cores, each number of words: nothing waits, memory is nought.
func TestNew(t *testing.T) {
	for cores := 1; cores <= api.MaxCores; cores++ {
		for words := 1; words <= mostWords; words++ {
			m := made(t, cores, words)
			wantNew(t, m, cores, words)
		}
	}
}

func wantNew(t *testing.T, m *tso.Model, cores, many int) {
	t.Helper()
	wantMemory(t, m, words(many)...)
	for _, core := range []int{0, cores / 2, cores - 1} {
		wantWaiting(t, m, slices.Repeat([]int{0}, cores)...)
		wantRead(t, m, core, 0, 0, true)
		wantRead(t, m, core, many-1, 0, true)
		wantRead(t, m, core, many, 0, false)
	}
	wantRead(t, m, cores, 0, 0, false)
}

// P10.1, P10.4: numbers that can't be: of both the cores are told; Replay tells the error as it is, ahead of any event.
func TestNewWrong(t *testing.T) {
	wrong := func(cores, words, at int) {
		t.Helper()
		m, err := tso.New(cores, words)
		wantRefused(t, err, "tso.New", at, api.ErrArg)
		if m != nil {
			t.Errorf("New(%d, %d) is %v", cores, words, m)
		}
		for _, l := range [][]api.Event{nil, {fence(0)}, {store(0, 0, 1), commit(0, 0, 1)}, {{}}, {load(-1, -1, 1)}} {
			memory, err := tso.Replay(cores, words, l...)
			wantRefused(t, err, "tso.New", at, api.ErrArg)
			if len(memory) != 0 {
				t.Error(memory)
			}
		}
	}
	for _, cores := range noCounts(api.MaxCores) {
		for _, words := range append(noCounts(mostWords), 1, 2, api.MaxCores, mostWords-1, mostWords) {
			wrong(cores, words, 0)
		}
	}
	for _, cores := range []int{1, 2, api.MaxCores - 1, api.MaxCores} {
		for _, words := range noCounts(mostWords) {
			wrong(cores, words, 1)
		}
	}
	// What is too much of the one may be of the other.
	wrong(mostWords, api.MaxCores, 0)
	wrong(api.MaxCores+1, 1, 0)
}

// P10.1, P10.2: a core or a word that is none, whatever waits.
func TestReadNone(t *testing.T) {
	for _, cores := range []int{1, 2, 3, api.MaxCores} {
		for _, words := range []int{1, 2, 3, mostWords} {
			m := made(t, cores, words, store(0, 0, 7), store(cores-1, words-1, 8), commit(0, 0, 7), store(0, 0, 9))
			was := told(m)
			for _, core := range noPlaces(cores) {
				if n := m.Waiting(core); n != 0 {
					t.Errorf("of core %d of %d %d wait", core, cores, n)
				}
				wantRead(t, m, core, 0, 0, false)
				wantRead(t, m, core, words-1, 0, false)
				for _, addr := range noPlaces(words) {
					wantRead(t, m, core, addr, 0, false)
				}
			}
			for _, addr := range noPlaces(words) {
				wantRead(t, m, 0, addr, 0, false)
				wantRead(t, m, cores-1, addr, 0, false)
			}
			if now := told(m); now != was {
				t.Errorf("%s, not %s", now, was)
			}
		}
	}
}

// someModels are of 3 cores and 4 words: with nothing, one and many stores that wait, ahead of and behind commits.
func someModels(t *testing.T) []*tso.Model {
	t.Helper()
	many := []api.Event{
		store(0, 1, 5), store(0, 1, 6), store(0, 3, 7), store(2, 0, 8), store(2, 1, 0), commit(0, 1, 5), store(0, 0, great),
		commit(2, 0, 8), store(0, 1, 9), store(2, 2, 1), cas(1, 0, 8, 3, true),
	}
	return []*tso.Model{
		made(t, 3, 4), made(t, 3, 4, store(0, 0, 0)), made(t, 3, 4, store(2, 3, 1)), made(t, 3, 4, many...),
		made(t, 3, 4, store(1, 2, 4), commit(1, 2, 4)), made(t, 3, 4, cas(1, 1, 0, great, true)),
	}
}

// P10.3: a Kind, a Core or an Addr that is none, one and several of them, whatever waits: ErrArg, at the Core.
func TestStepWrong(t *testing.T) {
	for _, m := range someModels(t) {
		was := told(m)
		refused := func(e api.Event) {
			t.Helper()
			for _, e.Value = range []uint32{0, 1, great} {
				wantRefused(t, m.Step(e), "tso.Step", e.Core, api.ErrArg)
				e.Done = !e.Done
			}
		}
		for _, kind := range noKinds() {
			for _, core := range append(noPlaces(3), 0, 1, 2) {
				for _, addr := range append(noPlaces(4), 0, 3) {
					refused(api.Event{Kind: kind, Core: core, Addr: addr})
				}
			}
		}
		for _, kind := range kinds() {
			for _, core := range noPlaces(3) {
				for _, addr := range append(noPlaces(4), 0, 1, 2, 3) {
					refused(api.Event{Kind: kind, Core: core, Addr: addr, New: 5})
				}
			}
			if kind == api.EFence {
				continue
			}
			for core := range 3 {
				for _, addr := range noPlaces(4) {
					refused(api.Event{Kind: kind, Core: core, Addr: addr, New: 5})
				}
			}
		}
		if now := told(m); now != was {
			t.Errorf("%s, not %s", now, was)
		}
	}
}

// P10.3: each kind of event of the first and the last core and word is taken; one ahead of and behind them none is.
func TestStepEdges(t *testing.T) {
	for _, cores := range []int{1, 2, api.MaxCores - 1, api.MaxCores} {
		for _, many := range []int{1, 2, mostWords - 1, mostWords} {
			m := made(t, cores, many)
			for _, core := range []int{0, cores - 1} {
				for _, addr := range []int{0, many - 1} {
					was, _ := m.Read(core, addr)
					take(t, m, load(core, addr, was), store(core, addr, 3), load(core, addr, 3), commit(core, addr, 3))
					take(t, m, fence(core), cas(core, addr, 3, 4, true), load(core, addr, 4))
				}
			}
			want := words(many)
			want[0], want[many-1] = 4, 4
			wantMemory(t, m, want...)
			for _, kind := range kinds() {
				wantStepRefused(t, m, api.Event{Kind: kind, Core: cores}, api.ErrArg)
				wantStepRefused(t, m, api.Event{Kind: kind, Core: -1}, api.ErrArg)
				if kind != api.EFence {
					wantStepRefused(t, m, api.Event{Kind: kind, Addr: many}, api.ErrArg)
					wantStepRefused(t, m, api.Event{Kind: kind, Addr: -1}, api.ErrArg)
				}
			}
		}
	}
}

// P10.3: a load is of what Read tells, and of nothing else; it does nothing.
func TestLoad(t *testing.T) {
	for _, m := range someModels(t) {
		was := told(m)
		for core := range 3 {
			for addr := range 4 {
				v, _ := m.Read(core, addr)
				take(t, m, load(core, addr, v), load(core, addr, v))
				for _, other := range []uint32{v + 1, v - 1, ^v, v ^ 1<<31, v ^ 1<<8} {
					wantStepRefused(t, m, load(core, addr, other), api.ErrValue)
				}
			}
		}
		if now := told(m); now != was {
			t.Errorf("%s, not %s", now, was)
		}
	}
}

// P10.2, P10.3: a load of what stands in memory is refused, if the core's own store hides it.
func TestLoadHidden(t *testing.T) {
	m := made(t, 2, 2, store(0, 1, 5), commit(0, 1, 5), store(0, 1, 0))
	wantStepRefused(t, m, load(0, 1, 5), api.ErrValue)
	wantStepRefused(t, m, load(1, 1, 0), api.ErrValue)
	take(t, m, load(0, 1, 0), load(1, 1, 5), commit(0, 1, 0))
	wantStepRefused(t, m, load(1, 1, 5), api.ErrValue)
	take(t, m, load(1, 1, 0))
}

// P10.1 to P10.3: stores wait, each core's in its own buffer, however many; memory stays.
func TestStore(t *testing.T) {
	m := made(t, 2, 3)
	for i := range 300 {
		take(t, m, store(0, i%2, uint32(i)))
		wantWaiting(t, m, i+1, 0)
		wantRead(t, m, 0, i%2, uint32(i), true)
		wantRead(t, m, 0, 2, 0, true)
		wantRead(t, m, 1, i%2, 0, true)
	}
	wantMemory(t, m, 0, 0, 0)
	take(t, m, store(1, 2, 7))
	wantWaiting(t, m, 300, 1)
	wantRead(t, m, 0, 2, 0, true)
	wantRead(t, m, 1, 2, 7, true)
	for i := range 300 {
		take(t, m, commit(0, i%2, uint32(i)))
		wantWaiting(t, m, 300-i-1, 1)
		wantRead(t, m, 1, i%2, uint32(i), true)
		wantRead(t, m, 0, 0, 298, true)
		wantRead(t, m, 0, 1, 299, true)
	}
	wantMemory(t, m, 298, 299, 0)
}

// P10.2: of several stores to a word the youngest is read, though it is neither
// the last of all nor the greatest; its commit is behind the elder ones'.
func TestYoungest(t *testing.T) {
	m := made(t, 2, 4, store(0, 1, 9), store(0, 2, 8), store(0, 1, 4), store(0, 1, 0), store(0, 2, great), store(0, 3, 6))
	for _, c := range []struct{ addr, value int }{{1, 9}, {2, 8}, {1, 4}, {1, 0}, {2, great}} {
		wantRead(t, m, 0, 0, 0, true)
		wantRead(t, m, 0, 1, 0, true)
		wantRead(t, m, 0, 2, great, true)
		wantRead(t, m, 0, 3, 6, true)
		take(t, m, commit(0, c.addr, uint32(c.value)))
		wantRead(t, m, 1, c.addr, uint32(c.value), true)
	}
	wantMemory(t, m, 0, 0, great, 0)
	// What waits no more hides nothing: another's commit is read.
	take(t, m, store(1, 2, 5), commit(1, 2, 5))
	wantRead(t, m, 0, 2, 5, true)
	take(t, m, store(1, 3, 5), commit(1, 3, 5))
	wantRead(t, m, 0, 3, 6, true)
	take(t, m, commit(0, 3, 6))
	wantMemory(t, m, 0, 0, 5, 6)
	wantRead(t, m, 1, 3, 6, true)
}

// P10.3: where none waits there is none to commit, whatever it would be and whatever others have; ahead of its value.
func TestCommitNone(t *testing.T) {
	emptied := made(t, 3, 2, store(0, 1, 5), commit(0, 1, 5), store(2, 0, 6))
	for _, m := range []*tso.Model{made(t, 3, 2), emptied} {
		for core := range 2 {
			for _, v := range []uint32{0, 1, 5, 6, great} {
				wantStepRefused(t, m, commit(core, 0, v), api.ErrOrder)
				wantStepRefused(t, m, commit(core, 1, v), api.ErrOrder)
			}
		}
	}
	take(t, emptied, commit(2, 0, 6))
	wantStepRefused(t, emptied, commit(2, 0, 6), api.ErrOrder)
}

// P10.3, P10.5: the eldest alone is committed, by its Addr and its Value.
func TestCommitOrder(t *testing.T) {
	stores := []api.Event{store(0, 1, 5), store(0, 1, 6), store(0, 2, 5), store(0, 1, 5), store(0, 0, 0)}
	m := made(t, 2, 3, append(stores, store(1, 0, 7))...)
	for i, eldest := range stores {
		for addr := range 3 {
			for _, v := range []uint32{0, 5, 6, 7, eldest.Value + 1<<31} {
				if addr != eldest.Addr || v != eldest.Value {
					wantStepRefused(t, m, commit(0, addr, v), api.ErrValue)
				}
			}
		}
		take(t, m, commit(0, eldest.Addr, eldest.Value))
		wantWaiting(t, m, len(stores)-i-1, 1)
		wantRead(t, m, 1, 1, []uint32{5, 6, 6, 5, 5}[i], true)
		wantRead(t, m, 1, 0, 7, true)
	}
	wantMemory(t, m, 0, 5, 5)
}

// P10.5: the commits of several cores go between each other in any order; memory has what came last.
func TestCommitsBetween(t *testing.T) {
	stores := []api.Event{store(0, 0, 1), store(1, 0, 3), store(0, 0, 2), store(1, 0, 4)}
	commits := []api.Event{commit(0, 0, 1), commit(0, 0, 2), commit(1, 0, 3), commit(1, 0, 4)}
	for _, c := range []struct {
		order []int
		last  uint32
	}{
		{[]int{0, 1, 2, 3}, 4}, {[]int{0, 2, 1, 3}, 4}, {[]int{0, 2, 3, 1}, 2},
		{[]int{2, 0, 1, 3}, 4}, {[]int{2, 0, 3, 1}, 2}, {[]int{2, 3, 0, 1}, 2},
	} {
		l := slices.Clone(stores)
		for _, i := range c.order {
			l = append(l, commits[i])
		}
		wantReplay(t, 2, 1, []uint32{c.last}, l...)
	}
	wantReplayRefused(t, 2, 1, 5, api.ErrValue, append(slices.Clone(stores), commits[2], commits[1])...)
	wantReplayRefused(t, 2, 1, 6, api.ErrOrder, append(slices.Clone(stores), commits[0], commits[1], commits[0])...)
}

// P10.3: a compare-and-swap of what memory has; New comes there if it is Done, and at once for all.
func TestCas(t *testing.T) {
	m := made(t, 2, 2, store(0, 1, 5))
	take(t, m, cas(1, 1, 0, 9, false))
	wantMemory(t, m, 0, 0)
	take(t, m, cas(1, 1, 0, 9, true))
	wantMemory(t, m, 0, 9)
	wantWaiting(t, m, 1, 0)
	wantRead(t, m, 0, 1, 5, true)
	wantRead(t, m, 1, 1, 9, true)
	take(t, m, cas(1, 1, 9, 9, true), cas(1, 1, 9, 0, false), cas(1, 1, 9, great, true), cas(1, 1, great, 0, true), cas(1, 0, 0, 3, true))
	wantMemory(t, m, 3, 0)
	for _, done := range []bool{false, true} {
		for _, v := range []uint32{1, 5, 9, great} {
			wantStepRefused(t, m, cas(1, 1, v, 4, done), api.ErrValue)
		}
		// What memory has at another word doesn't count.
		wantStepRefused(t, m, cas(1, 1, 3, 4, done), api.ErrValue)
		wantStepRefused(t, m, cas(1, 0, 0, 4, done), api.ErrValue)
	}
}

// P10.3: where a store waits there is neither a compare-and-swap nor a fence:
// of the word or another, of the right value or not, ahead of ErrValue.
func TestWaits(t *testing.T) {
	m := made(t, 2, 2, store(0, 1, 5), store(0, 0, 0))
	for waits := 2; waits > 0; waits-- {
		for addr := range 2 {
			for _, v := range []uint32{0, 5, 6} {
				wantStepRefused(t, m, cas(0, addr, v, 4, true), api.ErrOrder)
				wantStepRefused(t, m, cas(0, addr, v, 4, false), api.ErrOrder)
			}
		}
		wantStepRefused(t, m, fence(0), api.ErrOrder)
		// Another's buffer doesn't count.
		take(t, m, fence(1), cas(1, 0, 0, 0, true))
		take(t, m, []api.Event{commit(0, 0, 0), commit(0, 1, 5)}[waits-1])
	}
	take(t, m, fence(0), cas(0, 1, 5, 6, true), fence(0))
	wantMemory(t, m, 0, 6)
}

// P10.3: a fence's Addr and Value are not asked, and nothing is done.
func TestFence(t *testing.T) {
	m := made(t, 2, 2, store(0, 1, 5), commit(0, 1, 5), store(1, 0, 6))
	was := told(m)
	for _, addr := range append(noPlaces(2), 0, 1) {
		for _, v := range []uint32{0, 5, great} {
			take(t, m, api.Event{Kind: api.EFence, Addr: addr, Value: v, New: v, Done: true})
			wantStepRefused(t, m, api.Event{Kind: api.EFence, Core: 1, Addr: addr, Value: v}, api.ErrOrder)
		}
	}
	if now := told(m); now != was {
		t.Errorf("%s, not %s", now, was)
	}
}

// P10.3: New and Done are a compare-and-swap's alone.
func TestFieldsOfOthers(t *testing.T) {
	m := made(t, 1, 1)
	for _, e := range []api.Event{store(0, 0, 5), load(0, 0, 5), commit(0, 0, 5), load(0, 0, 5)} {
		e.New, e.Done = 9, true
		take(t, m, e)
	}
	wantMemory(t, m, 5)
}

// P10.4: no event, one, many.
func TestReplay(t *testing.T) {
	wantReplay(t, 1, 1, words(1))
	wantReplay(t, api.MaxCores, mostWords, words(mostWords), []api.Event{}...)
	wantReplay(t, 1, 3, words(3), store(0, 2, 4))
	wantReplay(t, 1, 3, []uint32{0, 0, 4}, cas(0, 2, 0, 4, true))
	wantReplay(t, 1, 3, words(3), fence(0))
	var l []api.Event
	want := words(mostWords)
	for i := range 10000 {
		core, addr := i%api.MaxCores, i*7%mostWords
		l = append(l, store(core, addr, uint32(i)), load(core, addr, uint32(i)), commit(core, addr, uint32(i)), fence(core))
		want[addr] = uint32(i)
	}
	wantReplay(t, api.MaxCores, mostWords, want, l...)
}

// P10.4: of several that are refused the first is told, at its number, over the Step's error at its Core.
func TestReplayRefused(t *testing.T) {
	right := []api.Event{store(2, 1, 5), load(2, 1, 5), commit(2, 1, 5), fence(2), cas(1, 1, 5, 6, true), load(0, 1, 6)}
	wrong := []struct {
		e     api.Event
		which error
	}{
		{api.Event{}, api.ErrArg}, {api.Event{Kind: 6, Core: 2}, api.ErrArg}, {load(3, 0, 0), api.ErrArg}, {load(math.MinInt, 0, 0), api.ErrArg},
		{store(2, 2, 0), api.ErrArg}, {commit(-1, 0, 0), api.ErrArg}, {load(1, 0, 1), api.ErrValue}, {cas(0, 0, 1, 1, false), api.ErrValue},
		{commit(0, 0, 1), api.ErrOrder},
	}
	for at := range len(right) + 1 {
		for _, w := range wrong {
			l := append(slices.Clone(right[:at]), w.e)
			wantReplayRefused(t, 3, 2, at, w.which, append(l, right[at:]...)...)
			wantReplayRefused(t, 3, 2, at, w.which, append(l, api.Event{}, load(0, 0, 9), fence(7))...)
		}
	}
	long := append(slices.Repeat([]api.Event{load(1, 1, 0)}, 5000), store(1, 0, 1), fence(1))
	wantReplayRefused(t, 2, 2, 5001, api.ErrOrder, long...)
}

// P10.1: a twin tells the same, and neither hears what the other does.
func TestTwin(t *testing.T) {
	for i := range someModels(t) {
		m, untouched := someModels(t)[i], someModels(t)[i]
		was, first := told(m), m.Twin()
		second := first.Twin()
		if told(first) != was || told(second) != was {
			t.Fatalf("%s, %s, not %s", told(first), told(second), was)
		}
		goAhead(t, first, 50)
		wantSameEnd(t, m, untouched)
		wantSameEnd(t, second, untouched)
		second = m.Twin()
		goAhead(t, m, 60)
		wantSameEnd(t, second, untouched)
		if told(first) == was || told(m) == was || told(first) == told(m) {
			t.Error("nothing was done")
		}
	}
}

// goAhead lets each core store and swap, and what waits come to memory.
func goAhead(t *testing.T, m *tso.Model, v uint32) {
	t.Helper()
	for core := range 3 {
		for addr := range 4 {
			take(t, m, store(core, addr, v+uint32(core)))
		}
	}
	settle(t, m, 1)
	now, _ := m.Read(1, 0)
	take(t, m, cas(1, 0, now, v+9, true))
}

// settle commits all that waits of a core; what the eldest is, is found by trying.
func settle(t *testing.T, m *tso.Model, core int) []api.Event {
	t.Helper()
	var l []api.Event
	for m.Waiting(core) > 0 {
		e, ok := eldest(m, core)
		if !ok {
			t.Fatalf("core %d has %d stores, of which none is the eldest", core, m.Waiting(core))
		}
		take(t, m, e)
		l = append(l, e)
	}
	return l
}

func eldest(m *tso.Model, core int) (api.Event, bool) {
	for addr := range len(m.Memory()) {
		for v := range uint32(100) {
			for _, e := range []api.Event{commit(core, addr, v), commit(core, addr, ^v)} {
				if m.Twin().Step(e) == nil {
					return e, true
				}
			}
		}
	}
	return api.Event{}, false
}

// wantSameEnd asks that two models tell the same, now and while what waits is committed. Twins of them do it.
func wantSameEnd(t *testing.T, m, other *tso.Model) {
	t.Helper()
	m, other = m.Twin(), other.Twin()
	for core := range 3 {
		if told(m) != told(other) {
			t.Errorf("%s, not %s", told(m), told(other))
		}
		if got, want := settle(t, m, core), settle(t, other, core); !slices.Equal(got, want) {
			t.Errorf("core %d commits %v, not %v", core, got, want)
		}
	}
	if told(m) != told(other) {
		t.Errorf("%s, not %s", told(m), told(other))
	}
}

// P10.1: twins in which one store waits: what the one stores next is not the other's, whatever room there is.
func TestTwinStores(t *testing.T) {
	for n := range 40 {
		m := made(t, 1, 2)
		for i := range n {
			take(t, m, store(0, 0, uint32(i)))
		}
		x, y := m.Twin(), m.Twin()
		take(t, m, store(0, 1, 1))
		take(t, x, store(0, 1, 2))
		take(t, y, store(0, 0, 3))
		for i := range n {
			take(t, y, commit(0, 0, uint32(i)))
			take(t, m, commit(0, 0, uint32(i)))
			take(t, x, commit(0, 0, uint32(i)))
		}
		wantRead(t, m, 0, 1, 1, true)
		take(t, m, commit(0, 1, 1))
		take(t, x, commit(0, 1, 2))
		take(t, y, commit(0, 0, 3))
	}
}

// R2: what Memory and Replay hand out is nobody else's, its spare room too.
func TestHandedOut(t *testing.T) {
	spoil := func(l []uint32) {
		l = l[:cap(l)]
		for i := range l {
			l[i] = 77
		}
	}
	for _, n := range []int{1, 2, 3, 5, 33, mostWords} {
		m := made(t, 2, n, store(0, 0, 5), commit(0, 0, 5), store(1, 0, 6))
		x, was := m.Twin(), told(m)
		l := m.Memory()
		spoil(m.Memory())
		spoil(x.Memory())
		if told(m) != was || told(x) != was {
			t.Errorf("%s, %s, not %s", told(m), told(x), was)
		}
		take(t, m, commit(1, 0, 6))
		if l[0] != 5 {
			t.Error("an answer heard of a later commit")
		}
		if spoil(l); told(x) != was {
			t.Errorf("%s, not %s", told(x), was)
		}
		a, _ := tso.Replay(1, n, cas(0, 0, 0, 8, true))
		b, _ := tso.Replay(1, n, cas(0, 0, 0, 8, true))
		spoil(a)
		if b[0] != 8 {
			t.Error("two answers share memory")
		}
	}
}

// R2: what is handed in to Replay stays as it is, its spare room too, where all is taken and where one is refused.
func TestHandedIn(t *testing.T) {
	for _, last := range []api.Event{load(0, 1, 5), load(0, 1, 6)} {
		room := []api.Event{store(0, 1, 5), commit(0, 1, 5), store(1, 0, 7), last, fence(9), store(0, 0, 1)}
		was := slices.Clone(room)
		first, err := tso.Replay(2, 2, room[:4]...)
		if !slices.Equal(room, was) {
			t.Errorf("%v, not %v", room, was)
		}
		if (err == nil) != (last.Value == 5) || err == nil && !slices.Equal(first, []uint32{0, 5}) {
			t.Error(first, err)
		}
		for i := range room {
			room[i] = fence(5)
		}
		if err == nil && !slices.Equal(first, []uint32{0, 5}) {
			t.Error("an answer heard of what was handed in")
		}
	}
}

// R3: a refused event is as if it had not been: the same goes on behind it, by hand and in Replay.
func TestRefusedIsNothing(t *testing.T) {
	right := []api.Event{store(0, 0, 1), store(0, 1, 2), commit(0, 0, 1), cas(1, 0, 1, 4, true), load(0, 1, 2), commit(0, 1, 2), fence(0)}
	m, plain := made(t, 2, 2), made(t, 2, 2)
	for _, e := range right {
		for _, wrong := range []api.Event{{}, load(0, 0, 99), commit(0, 1, 99), cas(0, 0, 99, 7, true), commit(1, 0, 0), store(2, 0, 1), store(0, 2, 1)} {
			if m.Step(wrong) == nil {
				t.Errorf("%+v is taken", wrong)
			}
		}
		take(t, m, e)
		take(t, plain, e)
		if told(m) != told(plain) {
			t.Errorf("%s, not %s", told(m), told(plain))
		}
	}
	wantMemory(t, m, 4, 2)
}

// R4: two models that are given the same tell the same, whatever a third does.
func TestNothingShared(t *testing.T) {
	a, b, c := made(t, 2, 2), made(t, 2, 2), made(t, 2, 2)
	for i := range 20 {
		l := []api.Event{store(0, i%2, uint32(i)), store(1, 1, uint32(i))}
		take(t, a, l...)
		take(t, c, store(1, 0, 50), commit(1, 0, 50))
		take(t, b, l...)
		if told(a) != told(b) {
			t.Errorf("%s, not %s", told(a), told(b))
		}
	}
}

// Buffers have no end, and a load does not go through all that waits.
func TestManyWait(t *testing.T) {
	const many = 300000
	m := made(t, 2, 3, store(0, 1, 6))
	for i := range many {
		take(t, m, store(0, 0, uint32(i)))
	}
	wantWaiting(t, m, many+1, 0)
	for range many {
		take(t, m, load(0, 1, 6), load(0, 2, 0), load(1, 0, 0))
	}
	take(t, m, commit(0, 1, 6))
	for i := range many {
		take(t, m, commit(0, 0, uint32(i)), load(0, 0, many-1))
	}
	wantWaiting(t, m, 0, 0)
	wantMemory(t, m, many-1, 6, 0)
	for i := range many {
		take(t, m, store(1, 2, uint32(i)), commit(1, 2, uint32(i)))
	}
	wantMemory(t, m, many-1, 6, many-1)
}
