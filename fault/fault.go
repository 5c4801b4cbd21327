// Package fault wraps errors with where they came to be: see the document's chapter 1.
package fault

import (
	"errors"

	"assent/api"
)

// Wrap tells err as an api.Fault of that call and place; no error stays none.
func Wrap(op string, at int, err error) error {
	if err == nil {
		return nil
	}
	return api.Fault{Op: op, At: at, Err: err}
}

// Find tells the first Fault that errors.As finds in err.
func Find(err error) (api.Fault, bool) {
	var f api.Fault
	if !holds(func() bool { return errors.As(err, &f) }) {
		// An As method may have written to f and still have said no.
		return api.Fault{}, false
	}
	return f, true
}

// Root tells the last error of the way that Unwrap goes from err.
func Root(err error) error {
	root := err
	for ; err != nil; err = below(err) {
		root = err
	}
	return root
}

// Ops tells the Op of each Fault on the way from err to its root, the outermost first.
func Ops(err error) []string {
	var ops []string
	astray := strays(err)
	for err != nil {
		f, ok := Find(err)
		switch {
		case ok && (!astray || same(err, f)):
			ops = append(ops, f.Op)
			err = f.Err
		case astray:
			err = below(err)
		default:
			return ops
		}
	}
	return ops
}

// Any tells the place of the first of l that errors.Is finds in err, or -1.
func Any(err error, l ...error) int {
	for i, target := range l {
		if holds(func() bool { return errors.Is(err, target) }) {
			return i
		}
	}
	return -1
}

// Depth tells how many errors stand on the way from err to its root, both counted.
func Depth(err error) int {
	n := 0
	for ; err != nil; err = below(err) {
		n++
	}
	return n
}

// below is the next error of the way, or nil at its end.
func below(err error) error {
	var next error
	holds(func() bool {
		next = errors.Unwrap(err)
		return true
	})
	return next
}

// strays tells whether errors.As may leave the way that Unwrap goes: at an
// error that answers As itself, or at a root that holds a list of errors.
// Where neither is, each Fault that it finds stands on the way.
func strays(err error) bool {
	var answers interface{ As(any) bool }
	var list interface{ Unwrap() []error }
	return holds(func() bool {
		return errors.As(err, &answers) || errors.As(err, &list)
	})
}

// same tells whether err is itself the Fault that errors.As found in it.
// Errors of two types differ before their fields are looked at, so a
// comparison that panics is one of two Faults.
func same(err error, f api.Fault) bool {
	differ := holds(func() bool { return err != error(f) })
	return !differ
}

// holds tells what ask answers; a panic of it is a no. Errors bring methods of
// their own, and errors.Is compares Faults whose inner errors may not compare.
func holds(ask func() bool) (yes bool) {
	defer func() {
		if recover() != nil {
			yes = false
		}
	}()
	return ask()
}
