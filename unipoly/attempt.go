package unipoly

import "straightedge/api"

// abandoned is what a computation that cannot be continued panics with.
type abandoned struct{ because api.Errno }

// abandon ends the computation of attempt with an error.
func abandon(e api.Errno) { panic(abandoned{e}) }

// attempt returns the result of a computation with the polynomials, or the error that one of them has or that the computation is abandoned with.
func attempt[T any](compute func() T, polys ...[]api.Rat) (result T, e api.Errno) {
	for _, p := range polys {
		if e := Check(p); e != api.OK {
			return result, e
		}
	}
	defer func() {
		switch cause := recover().(type) {
		case nil:
		case abandoned:
			e = cause.because
		default:
			// Nothing else panics; if anything did, this would not be the error of an argument.
			panic(cause)
		}
	}()
	return compute(), api.OK
}
