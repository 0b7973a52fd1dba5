package interval

import "inequality/api"

// An operation ends at its first error by a panic with that error, so that what it consists of need not pass errors on.

// must returns the result x of a part of an operation. The operation ends if the part has an error.
func must[T any](x T, err api.Errno) T {
	if err != api.OK {
		panic(err)
	}
	return x
}

// finish carries out an operation and returns its result, or the error at which it ended.
func finish[T any](op func() T) (result T, err api.Errno) {
	defer func() {
		switch reason := recover().(type) {
		case nil:
		case api.Errno:
			err = reason
		default: // a mistake of the program, whose result could be believed if it were hidden
			panic(reason)
		}
	}()
	return op(), api.OK
}

// ask carries out an operation on an interval.
func ask[T any](a api.Interval, op func(a set) T) (T, api.Errno) {
	return finish(func() T { return op(readSet(a)) })
}

// askBoth carries out an operation on two intervals.
func askBoth[T any](a, b api.Interval, op func(a, b set) T) (T, api.Errno) {
	return finish(func() T {
		x, y := readSet(a), readSet(b)
		return op(x, y)
	})
}

// one carries out an operation that turns an interval into another one, and an empty one into itself. valid tells whether the integers among the arguments are in their ranges.
func one(a api.Interval, valid bool, op func(a set) set) (api.Interval, api.Errno) {
	return ask(a, func(a set) api.Interval {
		requireArg(valid)
		if a.empty {
			return a.interval()
		}
		return op(a).interval()
	})
}

// both carries out an operation that turns two intervals into another one, which is empty if one of them is, as one does with one interval.
func both(a, b api.Interval, valid bool, op func(a, b set) set) (api.Interval, api.Errno) {
	return askBoth(a, b, func(a, b set) api.Interval {
		requireArg(valid)
		switch {
		case a.empty:
			return a.interval()
		case b.empty:
			return b.interval()
		}
		return op(a, b).interval()
	})
}

// rounded carries out an operation on two intervals and rounds its result to the grid of precision p.
func rounded(a, b api.Interval, p int, op func(a, b set) set) (api.Interval, api.Errno) {
	return both(a, b, isPrecision(p), func(a, b set) set { return op(a, b).round(p) })
}

// requireArg ends an operation whose integers are not in their ranges.
func requireArg(valid bool) {
	if !valid {
		panic(api.ErrArg)
	}
}

// isPrecision reports whether an operation may round to the grid of precision p.
func isPrecision(p int) bool {
	return p >= 0 && p <= api.MaxPrec
}
