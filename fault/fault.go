// Package fault wraps errors with where they came to be: see the document's chapter 1.
package fault

import (
	"errors"

	"assent/api"
)

// Wrap tells err as an api.Fault of that call and place; no error stays none.
func Wrap(op string, at int, err error) error {
	if err == nil {
		return nil
	}
	return api.Fault{Op: op, At: at, Err: err}
}

// Find tells the first Fault that errors.As finds in err.
func Find(err error) (api.Fault, bool) {
	var f api.Fault
	if !holds(func() bool { return errors.As(err, &f) }) {
		// An As method may have written to f and still have said no.
		return api.Fault{}, false
	}
	return f, true
}

// Root tells the last error of the way that Unwrap goes from err.
func Root(err error) error {
	root := err
	for ; err != nil; err = below(err) {
		root = err
	}
	return root
}

// Ops tells the Op of each Fault on the way from err to its root, the outermost first.
func Ops(err error) []string {
	var ops []string
	for ; err != nil; err = below(err) {
		if f, ok := itself(err); ok {
			ops = append(ops, f.Op)
		}
	}
	return ops
}

// Any tells the place of the first of l that errors.Is finds in err, or -1.
func Any(err error, l ...error) int {
	for i, target := range l {
		if holds(func() bool { return errors.Is(err, target) }) {
			return i
		}
	}
	return -1
}

// Depth tells how many errors stand on the way from err to its root, both counted.
func Depth(err error) int {
	n := 0
	for ; err != nil; err = below(err) {
		n++
	}
	return n
}

// below is the next error of the way, or nil at its end.
func below(err error) error {
	var next error
	holds(func() bool {
		next = errors.Unwrap(err)
		return true
	})
	return next
}

// itself tells the Fault that err is. errors.As would not do here: it takes what
// err only says to be, or what stands below it, and a Fault that it has found
// can't be held against err by ==, as not every Fault is equal to itself.
func itself(err error) (api.Fault, bool) {
	f, ok := err.(api.Fault)
	return f, ok
}

// holds tells what ask answers; a panic of it is a no. Errors bring methods of
// their own, and errors.Is compares Faults whose inner errors may not compare.
func holds(ask func() bool) (yes bool) {
	defer func() {
		if recover() != nil {
			yes = false
		}
	}()
	return ask()
}
