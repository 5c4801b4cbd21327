package fault_test

import (
	"errors"
	"fmt"
	"math"
	"slices"
	"testing"

	"assent/api"
	"assent/fault"
)

// apiErrors are all of api's errors, in its order.
func apiErrors() []error {
	return []error{
		api.ErrArg, api.ErrLong, api.ErrShort, api.ErrForm, api.ErrTail,
		api.ErrFull, api.ErrBusy, api.ErrNone, api.ErrOrder, api.ErrValue,
	}
}

// listError is an error that doesn't compare: == of two of them panics.
type listError []string

func (e listError) Error() string { return "a list" }

// posing is no Fault, but says by As that it is one.
type posing struct {
	f    api.Fault
	next error
}

func (e posing) Error() string { return "posing" }
func (e posing) Unwrap() error { return e.next }
func (e posing) As(target any) bool {
	if f, ok := target.(*api.Fault); ok {
		*f = e.f
		return true
	}
	return false
}

// endless poses as a Fault that holds itself.
type endless struct{}

func (e endless) Error() string { return "endless" }
func (e endless) As(target any) bool {
	if f, ok := target.(*api.Fault); ok {
		*f = api.Fault{Op: "endless", Err: e}
		return true
	}
	return false
}

// scribbling writes to what it is asked to be, and says no.
type scribbling struct{}

func (scribbling) Error() string { return "scribbling" }
func (scribbling) As(target any) bool {
	if f, ok := target.(*api.Fault); ok {
		*f = api.Fault{Op: "scribble", At: 9}
	}
	return false
}

// alike says by Is that it is one of api's errors.
type alike struct{}

func (alike) Error() string        { return "alike" }
func (alike) Is(target error) bool { return target == api.ErrOrder }

// broken panics in each of the methods that package errors asks.
type broken struct{ next error }

func (broken) Error() string   { return "broken" }
func (broken) Is(error) bool   { panic("is") }
func (broken) As(any) bool     { panic("as") }
func (e broken) Unwrap() error { return e.next }

func wantWay(t *testing.T, err, root error, depth int, ops ...string) {
	t.Helper()
	if got := fault.Root(err); got != root {
		t.Errorf("Root(%v) is %v, not %v", err, got, root)
	}
	if got := fault.Depth(err); got != depth {
		t.Errorf("Depth(%v) is %d, not %d", err, got, depth)
	}
	if got := fault.Ops(err); !slices.Equal(got, ops) {
		t.Errorf("Ops(%v) is %q, not %q", err, got, ops)
	}
}

func wantFound(t *testing.T, err error, want api.Fault) {
	t.Helper()
	if f, ok := fault.Find(err); f != want || !ok {
		t.Errorf("Find(%v) is %v, %v, not %v", err, f, ok, want)
	}
}

func wantNotFound(t *testing.T, err error) {
	t.Helper()
	if f, ok := fault.Find(err); f != (api.Fault{}) || ok {
		t.Errorf("Find(%v) is %v, %v, not none", err, f, ok)
	}
}

func wantAny(t *testing.T, want int, err error, l ...error) {
	t.Helper()
	if got := fault.Any(err, l...); got != want {
		t.Errorf("Any(%v, %v) is %d, not %d", err, l, got, want)
	}
}

// The chapter's table.
func TestRuns(t *testing.T) {
	inner := fault.Wrap("a.B", 3, api.ErrFull)
	if inner.Error() != "a.B: no room" {
		t.Errorf("Error is %q", inner.Error())
	}
	wantFound(t, inner, api.Fault{Op: "a.B", At: 3, Err: api.ErrFull})
	wantWay(t, inner, api.ErrFull, 2, "a.B")
	outer := fault.Wrap("c.D", 0, inner)
	wantWay(t, outer, api.ErrFull, 3, "c.D", "a.B")
	wantAny(t, 1, outer, api.ErrBusy, api.ErrFull)
	if err := fault.Wrap("e.F", 1, nil); err != nil {
		t.Errorf("Wrap of nil is %v", err)
	}
}

// P1.1: a Fault as a value, of just what was given.
func TestWrapMakesFault(t *testing.T) {
	for _, want := range []api.Fault{
		{Op: "a.B", At: 3, Err: api.ErrFull},
		{Op: "", At: 0, Err: api.ErrArg},
		{Op: "x\x00\xff", At: -1, Err: errors.New("plain")},
		{Op: "geom.Check", At: 1<<63 - 1, Err: api.Fault{Op: "a.B"}},
		{Op: "geom.Check", At: -1 << 63, Err: &api.Fault{}},
	} {
		err := fault.Wrap(want.Op, want.At, want.Err)
		if f, ok := err.(api.Fault); !ok || f != want {
			t.Errorf("Wrap(%q, %d, %v) is %#v", want.Op, want.At, want.Err, err)
		}
	}
}

// P1.1: only nil itself is no error.
func TestWrapOfNil(t *testing.T) {
	if err := fault.Wrap("", 0, nil); err != nil {
		t.Errorf("Wrap of nil is %v", err)
	}
	var none *api.Fault
	if f, ok := fault.Wrap("a.B", 1, none).(api.Fault); !ok || f.Err != error(none) {
		t.Error("an error of a nil pointer was not wrapped")
	}
}

// P1.2: no error at all.
func TestNoError(t *testing.T) {
	wantNotFound(t, nil)
	wantWay(t, nil, nil, 0)
}

// P1.2: an error without a Fault.
func TestPlainError(t *testing.T) {
	plain := errors.New("plain")
	wantNotFound(t, plain)
	wantWay(t, plain, plain, 1)
	wrapped := fmt.Errorf("b: %w", fmt.Errorf("a: %w", plain))
	wantNotFound(t, wrapped)
	wantWay(t, wrapped, plain, 3)
}

// P1.2: Find tells the outermost Fault, and what it holds.
func TestFindOutermost(t *testing.T) {
	first := fault.Wrap("a.B", 1, api.ErrNone)
	second := fault.Wrap("c.D", 2, fmt.Errorf("between: %w", first))
	third := fmt.Errorf("outside: %w", fault.Wrap("e.F", -3, second))
	wantFound(t, third, api.Fault{Op: "e.F", At: -3, Err: second})
	wantWay(t, third, api.ErrNone, 6, "e.F", "c.D", "a.B")
}

// P1.2: Faults that are alike are told each.
func TestAlikeFaults(t *testing.T) {
	err := fault.Wrap("a.B", 0, fault.Wrap("a.B", 0, fault.Wrap("", 0, api.ErrBusy)))
	wantWay(t, err, api.ErrBusy, 4, "a.B", "a.B", "")
}

// P1.2: a Fault that holds nothing is a root.
func TestFaultWithoutError(t *testing.T) {
	bare := api.Fault{Op: "a.B", At: 4}
	wantFound(t, bare, bare)
	wantWay(t, bare, bare, 1, "a.B")
	wantWay(t, fault.Wrap("c.D", 0, bare), bare, 2, "c.D", "a.B")
}

// P1.2: a pointer to a Fault is no Fault, but wraps what it points to.
func TestPointerToFault(t *testing.T) {
	p := &api.Fault{Op: "p.Q", At: 1, Err: api.ErrTail}
	wantNotFound(t, p)
	wantWay(t, p, api.ErrTail, 2)
	err := fault.Wrap("a.B", 0, &api.Fault{Op: "p.Q", Err: fault.Wrap("c.D", 2, api.ErrTail)})
	wantWay(t, err, api.ErrTail, 4, "a.B", "c.D")
}

// P1.2: Unwrap gives no list, so a root that holds one is the end of the way,
// though errors.As looks into it.
func TestListAtRoot(t *testing.T) {
	inside := api.Fault{Op: "a.B", At: 1, Err: fault.Wrap("c.D", 2, api.ErrFull)}
	join := errors.Join(errors.New("plain"), inside)
	wantFound(t, join, inside)
	wantWay(t, join, join, 1)
	wantWay(t, fault.Wrap("e.F", 3, join), join, 2, "e.F")
	between := fault.Wrap("e.F", 3, fmt.Errorf("between: %w", fault.Wrap("g.H", 4, join)))
	wantWay(t, between, join, 4, "e.F", "g.H")
	wantAny(t, 1, between, api.ErrBusy, api.ErrFull)
	bare := errors.Join(api.Fault{Op: "a.B"})
	wantWay(t, bare, bare, 1)
}

// P1.2: what says by As that it is a Fault is found, but is none on the way.
func TestPosingAsFault(t *testing.T) {
	f := api.Fault{Op: "other", At: 5, Err: api.ErrBusy}
	err := posing{f: f, next: fault.Wrap("a.B", 1, api.ErrFull)}
	wantFound(t, err, f)
	wantWay(t, err, api.ErrFull, 3, "a.B")
	wantWay(t, fault.Wrap("c.D", 0, err), api.ErrFull, 4, "c.D", "a.B")
	wantWay(t, fault.Wrap("c.D", 0, endless{}), endless{}, 2, "c.D")
	wantNotFound(t, scribbling{})
}

// number is an error that isn't equal to itself where it holds no number.
type number struct{ n float64 }

func (number) Error() string { return "number" }

// shadow says by As that it is a Fault around itself, and isn't equal to itself.
type shadow struct {
	op   string
	n    float64
	next error
}

func (shadow) Error() string   { return "shadow" }
func (e shadow) Unwrap() error { return e.next }
func (e shadow) As(target any) bool {
	if f, ok := target.(*api.Fault); ok {
		*f = api.Fault{Op: e.op, Err: e}
		return true
	}
	return false
}

func wantOps(t *testing.T, err error, depth int, ops ...string) {
	t.Helper()
	if got := fault.Ops(err); !slices.Equal(got, ops) {
		t.Errorf("Ops(%v) is %q, not %q", err, got, ops)
	}
	if got := fault.Depth(err); got != depth {
		t.Errorf("Depth(%v) is %d, not %d", err, got, depth)
	}
}

// P1.2: a Fault on the way counts, though it isn't equal to itself, wherever
// one that poses as a Fault stands.
func TestOpsOfUnequalFaults(t *testing.T) {
	nan := number{math.NaN()}
	inner := fault.Wrap("a.B", 1, nan)
	other := api.Fault{Op: "other", At: 5}
	wantOps(t, inner, 2, "a.B")
	wantOps(t, fault.Wrap("c.D", 0, posing{f: other, next: inner}), 4, "c.D", "a.B")
	wantOps(t, posing{f: other, next: fault.Wrap("c.D", 0, inner)}, 4, "c.D", "a.B")
	wantOps(t, posing{f: api.Fault{Op: "a.B", At: 1, Err: nan}, next: inner}, 3, "a.B")
	wantOps(t, fmtless{posing{f: other, next: fmtless{inner}}}, 5, "a.B")
	joins := fault.Wrap("c.D", 0, fault.Wrap("a.B", 1, errors.Join(nan, inner)))
	wantOps(t, joins, 3, "c.D", "a.B")
	wantOps(t, fault.Wrap("e.F", 2, broken{joins}), 5, "e.F", "c.D", "a.B")
}

// P1.2: what poses as the very Fault that might wrap it is none.
func TestOpsOfShadows(t *testing.T) {
	end := shadow{op: "c.D", n: math.NaN()}
	wantOps(t, end, 1)
	wantOps(t, fmtless{end}, 2)
	wantOps(t, fault.Wrap("c.D", 0, end), 2, "c.D")
	mid := shadow{op: "c.D", n: math.NaN(), next: fault.Wrap("a.B", 1, end)}
	wantOps(t, fmtless{mid}, 4, "a.B")
	wantOps(t, fault.Wrap("c.D", 0, mid), 4, "c.D", "a.B")
	wantOps(t, &api.Fault{Op: "c.D", Err: mid}, 4, "a.B")
}

// P1.2: a deep way with one that poses at its end is gone in one pass.
func TestDeepWayToPosing(t *testing.T) {
	const deep = 1<<16 - 2
	var err error = shadow{op: "c.D", n: math.NaN()}
	for range deep {
		err = fault.Wrap("c.D", 0, err)
	}
	if n := len(fault.Ops(err)); n != deep {
		t.Errorf("%d Ops of a deep way", n)
	}
}

// P1.2: as deep as the bound lets errors be nested.
func TestDeepWay(t *testing.T) {
	const deep = 1<<16 - 2
	faults, plain := api.ErrForm, fault.Wrap("a.B", 0, api.ErrForm)
	for range deep {
		faults = fault.Wrap("c.D", 0, faults)
		plain = fmtless{plain}
	}
	if n := len(fault.Ops(faults)); n != deep || fault.Depth(faults) != deep+1 || fault.Root(faults) != api.ErrForm {
		t.Errorf("%d Ops of a deep way", n)
	}
	wantFound(t, plain, api.Fault{Op: "a.B", Err: api.ErrForm})
	if l := fault.Ops(plain); !slices.Equal(l, []string{"a.B"}) || fault.Depth(plain) != deep+2 {
		t.Errorf("Ops of a deep plain way are %q", l)
	}
	wantAny(t, 1, faults, api.ErrArg, api.ErrForm)
}

// fmtless wraps without a text, which would grow with each.
type fmtless struct{ next error }

func (fmtless) Error() string   { return "wrapped" }
func (e fmtless) Unwrap() error { return e.next }

// P1.3: the first place of the list, whatever the order in err is.
func TestAnyPlace(t *testing.T) {
	inner := fault.Wrap("a.B", 1, api.ErrFull)
	err := fault.Wrap("c.D", 2, inner)
	wantAny(t, 0, err, api.ErrFull, api.ErrFull)
	wantAny(t, 2, err, api.ErrArg, api.ErrBusy, api.ErrFull, err)
	wantAny(t, 1, err, api.ErrArg, inner, err)
	wantAny(t, 0, err, err, api.ErrFull)
	wantAny(t, -1, err, api.ErrArg, api.ErrBusy)
	wantAny(t, -1, inner, err)
	for i, e := range apiErrors() {
		wantAny(t, i, fault.Wrap("a.B", 0, e), apiErrors()...)
	}
}

// P1.3: errors.Is asks, not the text and not == alone.
func TestAnyAsksIs(t *testing.T) {
	wantAny(t, -1, errors.New(api.ErrFull.Error()), api.ErrFull)
	wantAny(t, 1, fault.Wrap("a.B", 0, alike{}), api.ErrFull, api.ErrOrder)
	wantAny(t, 0, errors.Join(api.ErrArg, api.ErrFull), api.ErrFull, api.ErrArg)
}

// P1.3: an empty list, and nil in it or as the error.
func TestAnyNil(t *testing.T) {
	err := fault.Wrap("a.B", 0, api.ErrFull)
	wantAny(t, -1, err)
	wantAny(t, -1, err, []error{}...)
	wantAny(t, -1, err, nil, nil)
	wantAny(t, 1, err, nil, api.ErrFull)
	wantAny(t, -1, nil)
	wantAny(t, -1, nil, api.ErrArg, err)
	wantAny(t, 0, nil, nil, nil)
	wantAny(t, 2, nil, api.ErrArg, err, nil)
	wantAny(t, -1, api.Fault{Op: "a.B"}, nil)
}

// P1.4: errors.Is finds the same through any number of wraps.
func TestWrapHidesNothing(t *testing.T) {
	targets := append(apiErrors(), errors.New("plain"), alike{}, nil)
	errs := append(apiErrors(), alike{}, errors.Join(api.ErrArg, api.ErrNone), fmt.Errorf("a: %w", api.ErrLong))
	for _, err := range errs {
		wrapped := err
		for n := range 4 {
			wrapped = fault.Wrap("a.B", n, wrapped)
			for _, target := range targets {
				if errors.Is(wrapped, target) != errors.Is(err, target) {
					t.Errorf("%v in %v wrapped %d times", target, err, n+1)
				}
			}
			if !errors.Is(wrapped, err) {
				t.Errorf("%v is not found in itself wrapped", err)
			}
		}
	}
}

// R1: errors that can't be compared.
func TestErrorsThatDoNotCompare(t *testing.T) {
	list := listError{"x"}
	err := fault.Wrap("a.B", 1, list)
	if f, ok := fault.Find(err); !ok || f.Op != "a.B" || f.At != 1 {
		t.Error(f, ok)
	}
	if fault.Depth(err) != 2 || len(fault.Root(err).(listError)) != 1 || !slices.Equal(fault.Ops(err), []string{"a.B"}) {
		t.Error(fault.Depth(err), fault.Ops(err))
	}
	wantAny(t, -1, err, list, fault.Wrap("a.B", 1, listError{"x"}))
	wantAny(t, 1, fault.Wrap("a.B", 1, joined{list, api.ErrFull}), fault.Wrap("a.B", 1, joined{}), api.ErrFull)
	way := fault.Wrap("a.B", 1, fault.Wrap("c.D", 1, joined{list}))
	if l := fault.Ops(way); !slices.Equal(l, []string{"a.B", "c.D"}) {
		t.Error(l)
	}
}

// joined holds a list, and doesn't compare.
type joined []error

func (joined) Error() string     { return "joined" }
func (e joined) Unwrap() []error { return e }

// R1: errors whose own methods panic.
func TestErrorsThatPanic(t *testing.T) {
	err := broken{fault.Wrap("a.B", 1, api.ErrFull)}
	wantNotFound(t, err)
	wantWay(t, err, api.ErrFull, 3, "a.B")
	wantAny(t, -1, err, api.ErrArg)
	wantAny(t, 1, err, api.ErrFull, err)
	var none *api.Fault
	wantNotFound(t, none)
	wrapped := fault.Wrap("a.B", 1, none)
	if fault.Root(wrapped) != error(none) || fault.Depth(wrapped) != 2 || !slices.Equal(fault.Ops(wrapped), []string{"a.B"}) {
		t.Error(fault.Depth(wrapped), fault.Ops(wrapped))
	}
}

// R2: a list is not changed, nor the room behind it; an answer is new memory.
func TestMemory(t *testing.T) {
	room := []error{api.ErrArg, api.ErrFull, api.ErrBusy, nil}
	err := fault.Wrap("a.B", 1, fault.Wrap("c.D", 2, api.ErrNone))
	wantAny(t, -1, err, room[:2]...)
	wantAny(t, -1, nil, room[:2]...)
	if !slices.Equal(room, []error{api.ErrArg, api.ErrFull, api.ErrBusy, nil}) {
		t.Error("the list was changed:", room)
	}
	first := fault.Ops(err)
	first[0], first[1] = "x", "y"
	wantWay(t, err, api.ErrNone, 3, "a.B", "c.D")
}
