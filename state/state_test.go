package state_test

import (
	"math"
	"testing"

	"assent/api"
	"assent/state"
)

// The states, the modes and the forwards, each of which there are few.
func states() []int {
	return []int{api.Invalid, api.Shared, api.Exclusive, api.Owned, api.Modified}
}

func modes() []int { return []int{api.Mesi, api.Moesi, api.Dragon, api.Migrant} }

func forwards() []int {
	return []int{api.FShare, api.FInval, api.FHold, api.FUpdate, api.FClean, api.FTake}
}

// others are kinds of messages that are no forward.
func others() []int {
	return []int{
		api.QRead, api.QWrite, api.QUpdate, api.QEvict, api.RAck, api.RFill, api.RData, api.RApply, api.RGone,
	}
}

// past are numbers below 0 and above most; some are within, once their upper bits are cut off.
func past(most int) []int {
	out := []int{math.MinInt, math.MinInt + 1, math.MaxInt - 1, math.MaxInt, -1 << 31, -1 << 32, 1 << 31, 1 << 32, -1, -2}
	for n := most + 1; n < most+20; n++ {
		out = append(out, n, -n)
	}
	for n := 0; n <= most; n++ {
		out = append(out, n+1<<8, n-1<<8, n+1<<16, n+1<<32, n-1<<32, n+1<<62, math.MinInt+n)
	}
	return out
}

func noStates() []int { return past(api.Modified) }
func noModes() []int  { return past(api.Migrant) }

// noForwards are kinds that are no forward, and numbers that are no kind.
func noForwards() []int { return append(append(others(), 0), past(api.RGone)...) }

func wantNext(t *testing.T, s, kind, mode, to int, data bool) {
	t.Helper()
	if gotTo, gotData := state.Next(s, kind, mode); gotTo != to || gotData != data {
		t.Errorf("Next(%d, %d, %d): %d, %v; want %d, %v", s, kind, mode, gotTo, gotData, to, data)
	}
}

func wantGrant(t *testing.T, kind int, alone bool, want int) {
	t.Helper()
	if got := state.Grant(kind, alone); got != want {
		t.Errorf("Grant(%d, %v): %d; want %d", kind, alone, got, want)
	}
}

// wantLegal asks in either order.
func wantLegal(t *testing.T, a, b int, want bool) {
	t.Helper()
	if got := state.Legal(a, b); got != want {
		t.Errorf("Legal(%d, %d): %v; want %v", a, b, got, want)
	}
	if got := state.Legal(b, a); got != want {
		t.Errorf("Legal(%d, %d): %v; want %v", b, a, got, want)
	}
}

func wantLets(t *testing.T, s int, reads, writes, dirty bool) {
	t.Helper()
	if got := state.Reads(s); got != reads {
		t.Errorf("Reads(%d): %v", s, got)
	}
	if got := state.Writes(s); got != writes {
		t.Errorf("Writes(%d): %v", s, got)
	}
	if got := state.Dirty(s); got != dirty {
		t.Errorf("Dirty(%d): %v", s, got)
	}
}

func TestRuns(t *testing.T) {
	wantNext(t, api.Modified, api.FShare, api.Mesi, api.Shared, true)
	wantNext(t, api.Modified, api.FShare, api.Moesi, api.Owned, true)
	wantNext(t, api.Modified, api.FShare, api.Migrant, api.Invalid, true)
	wantNext(t, api.Exclusive, api.FInval, api.Mesi, api.Invalid, false)
	wantLegal(t, api.Modified, api.Shared, false)
	wantGrant(t, api.QRead, true, api.Exclusive)
}

// P13.1.
func TestWhatAStateLets(t *testing.T) {
	wantLets(t, api.Invalid, false, false, false)
	wantLets(t, api.Shared, true, false, false)
	wantLets(t, api.Exclusive, true, true, false)
	wantLets(t, api.Owned, true, false, true)
	wantLets(t, api.Modified, true, true, true)
}

// P13.1: a number that is no state lets nothing.
func TestWhatNoStateLets(t *testing.T) {
	for _, s := range noStates() {
		wantLets(t, s, false, false, false)
	}
}

// P13.2: Modified and Owned, by FShare in each mode.
func TestShareOfTheDirty(t *testing.T) {
	wantNext(t, api.Modified, api.FShare, api.Mesi, api.Shared, true)
	wantNext(t, api.Modified, api.FShare, api.Moesi, api.Owned, true)
	wantNext(t, api.Modified, api.FShare, api.Dragon, api.Owned, true)
	wantNext(t, api.Modified, api.FShare, api.Migrant, api.Invalid, true)
	wantNext(t, api.Owned, api.FShare, api.Mesi, api.Shared, true)
	wantNext(t, api.Owned, api.FShare, api.Moesi, api.Owned, true)
	wantNext(t, api.Owned, api.FShare, api.Dragon, api.Owned, true)
	wantNext(t, api.Owned, api.FShare, api.Migrant, api.Shared, true)
}

// P13.2: of a clean line, FShare makes Shared in every mode, without data.
func TestShareOfTheClean(t *testing.T) {
	for _, mode := range modes() {
		wantNext(t, api.Shared, api.FShare, mode, api.Shared, false)
		wantNext(t, api.Exclusive, api.FShare, mode, api.Shared, false)
	}
}

// P13.2: FInval and FTake take the line, FClean leaves it Shared; of dirty ones the data go along.
func TestGivenUpOrCleaned(t *testing.T) {
	for _, mode := range modes() {
		for _, kind := range []int{api.FInval, api.FTake} {
			wantNext(t, api.Shared, kind, mode, api.Invalid, false)
			wantNext(t, api.Exclusive, kind, mode, api.Invalid, false)
			wantNext(t, api.Owned, kind, mode, api.Invalid, true)
			wantNext(t, api.Modified, kind, mode, api.Invalid, true)
		}
		wantNext(t, api.Shared, api.FClean, mode, api.Shared, false)
		wantNext(t, api.Exclusive, api.FClean, mode, api.Shared, false)
		wantNext(t, api.Owned, api.FClean, mode, api.Shared, true)
		wantNext(t, api.Modified, api.FClean, mode, api.Shared, true)
	}
}

// P13.2: FHold and FUpdate leave the state, and hand no data on, dirty or not.
func TestHeldAndUpdated(t *testing.T) {
	for _, mode := range modes() {
		for _, kind := range []int{api.FHold, api.FUpdate} {
			wantNext(t, api.Shared, kind, mode, api.Shared, false)
			wantNext(t, api.Exclusive, kind, mode, api.Exclusive, false)
			wantNext(t, api.Owned, kind, mode, api.Owned, false)
			wantNext(t, api.Modified, kind, mode, api.Modified, false)
		}
	}
}

// P13.2: what isn't to be read comes to nothing.
func TestNextOfNoState(t *testing.T) {
	for _, s := range append(noStates(), api.Invalid) {
		for _, kind := range forwards() {
			for _, mode := range modes() {
				wantNext(t, s, kind, mode, api.Invalid, false)
			}
		}
	}
}

// P13.2: a kind that is no forward, and a number that is no kind.
func TestNextByNoForward(t *testing.T) {
	for _, kind := range noForwards() {
		for _, s := range states() {
			for _, mode := range modes() {
				wantNext(t, s, kind, mode, api.Invalid, false)
			}
		}
	}
}

// P13.2: a number that is no mode is refused by every forward, those too that hang on no mode.
func TestNextInNoMode(t *testing.T) {
	for _, mode := range noModes() {
		for _, s := range states() {
			for _, kind := range forwards() {
				wantNext(t, s, kind, mode, api.Invalid, false)
			}
		}
	}
}

// P13.2: several wrong together.
func TestNextOfSeveralWrong(t *testing.T) {
	nones := append(noStates(), api.Invalid)
	for _, s := range nones {
		for _, kind := range noForwards() {
			wantNext(t, s, kind, api.Moesi, api.Invalid, false)
		}
		for _, mode := range noModes() {
			wantNext(t, s, api.FHold, mode, api.Invalid, false)
			wantNext(t, s, api.FShare, mode, api.Invalid, false)
		}
	}
	for _, kind := range noForwards() {
		for _, mode := range noModes() {
			wantNext(t, api.Modified, kind, mode, api.Invalid, false)
			wantNext(t, api.Shared, kind, mode, api.Invalid, false)
			wantNext(t, -1, kind, mode, api.Invalid, false)
			wantNext(t, api.Modified+1, kind, mode, api.Invalid, false)
		}
	}
}

// nextByTheWords is P13.2 told again: a row of the table is what each mode makes of each state.
func nextByTheWords(s, kind, mode int) (int, bool) {
	const i, h, e, o, m = api.Invalid, api.Shared, api.Exclusive, api.Owned, api.Modified
	if s < i || s > m || mode < api.Mesi || mode > api.Migrant {
		return i, false
	}
	var to [4][5]int
	data := [5]bool{o: true, m: true}
	switch kind {
	case api.FShare:
		to = [4][5]int{
			api.Mesi:    {i, h, h, h, h},
			api.Moesi:   {i, h, h, o, o},
			api.Dragon:  {i, h, h, o, o},
			api.Migrant: {i, h, h, h, i},
		}
	case api.FInval, api.FTake:
	case api.FClean:
		to = [4][5]int{{i, h, h, h, h}, {i, h, h, h, h}, {i, h, h, h, h}, {i, h, h, h, h}}
	case api.FHold, api.FUpdate:
		to = [4][5]int{{i, h, e, o, m}, {i, h, e, o, m}, {i, h, e, o, m}, {i, h, e, o, m}}
		data = [5]bool{}
	default:
		return i, false
	}
	return to[mode][s], data[s]
}

// P13.2: all states, kinds and modes, and some past them, together.
func TestNextOfAllTogether(t *testing.T) {
	for s := -3; s <= api.Modified+3; s++ {
		for kind := -3; kind <= api.RGone+3; kind++ {
			for mode := -3; mode <= api.Migrant+3; mode++ {
				to, data := nextByTheWords(s, kind, mode)
				wantNext(t, s, kind, mode, to, data)
			}
		}
	}
}

// P13.3.
func TestGrant(t *testing.T) {
	wantGrant(t, api.QRead, true, api.Exclusive)
	wantGrant(t, api.QRead, false, api.Shared)
	wantGrant(t, api.QWrite, true, api.Modified)
	wantGrant(t, api.QWrite, false, api.Modified)
	wantGrant(t, api.QUpdate, true, api.Modified)
	wantGrant(t, api.QUpdate, false, api.Modified)
}

// P13.3: kinds that ask for nothing, and numbers that are no kind, are granted nothing.
func TestGrantOfOthers(t *testing.T) {
	none := []int{api.QEvict, api.RAck, api.RFill, api.RData, api.RApply, api.RGone, 0}
	none = append(append(none, forwards()...), past(api.RGone)...)
	for _, kind := range none {
		wantGrant(t, kind, true, api.Invalid)
		wantGrant(t, kind, false, api.Invalid)
	}
}

// P13.4: each two states.
func TestLegal(t *testing.T) {
	wantLegal(t, api.Shared, api.Shared, true)
	wantLegal(t, api.Shared, api.Owned, true)
	wantLegal(t, api.Shared, api.Exclusive, false)
	wantLegal(t, api.Shared, api.Modified, false)
	wantLegal(t, api.Owned, api.Owned, false)
	wantLegal(t, api.Owned, api.Exclusive, false)
	wantLegal(t, api.Owned, api.Modified, false)
	wantLegal(t, api.Exclusive, api.Exclusive, false)
	wantLegal(t, api.Exclusive, api.Modified, false)
	wantLegal(t, api.Modified, api.Modified, false)
}

// P13.4: beside Invalid each may be.
func TestLegalBesideInvalid(t *testing.T) {
	for _, s := range states() {
		wantLegal(t, api.Invalid, s, true)
	}
}

// P13.4: a number that is no state is neither Invalid, nor Shared, nor Owned;
// an Invalid one beside it is all that is asked.
func TestLegalOfNoState(t *testing.T) {
	for _, s := range noStates() {
		wantLegal(t, api.Invalid, s, true)
		for _, b := range states()[1:] {
			wantLegal(t, b, s, false)
		}
		wantLegal(t, s, s, false)
		wantLegal(t, s, -1, false)
		wantLegal(t, s, api.Modified+1, false)
	}
}

// P13.5: what one cache has behind a forward is legal with what the asker is granted.
func TestBehindAForward(t *testing.T) {
	for _, s := range states() {
		for _, mode := range modes() {
			for _, kind := range []int{api.FShare, api.FClean, api.FInval, api.FTake} {
				to, _ := state.Next(s, kind, mode)
				wantLegal(t, to, state.Grant(api.QRead, false), true)
			}
			for _, kind := range []int{api.FInval, api.FTake} {
				to, _ := state.Next(s, kind, mode)
				for _, asker := range append(states(), state.Grant(api.QRead, true), state.Grant(api.QWrite, true), state.Grant(api.QUpdate, false)) {
					wantLegal(t, to, asker, true)
				}
			}
		}
	}
}

// P13.5: what was dirty hands its data on, or stays dirty; and what was clean has none to hand on.
func TestNoDataAreLost(t *testing.T) {
	for _, s := range states() {
		for _, mode := range modes() {
			for _, kind := range forwards() {
				to, data := state.Next(s, kind, mode)
				if state.Dirty(s) && !data && !state.Dirty(to) {
					t.Errorf("Next(%d, %d, %d): %d, and the data are lost", s, kind, mode, to)
				}
				if data && !state.Dirty(s) {
					t.Errorf("Next(%d, %d, %d) hands on data of a clean line", s, kind, mode)
				}
			}
		}
	}
}
