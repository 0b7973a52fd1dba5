package interval

import (
	"inequality/api"
	"inequality/halt"
)

// ask carries out an operation on an interval.
func ask[T any](a api.Interval, op func(a set) T) (T, api.Errno) {
	return halt.Run(func() T { return op(readSet(a)) })
}

// askBoth carries out an operation on two intervals.
func askBoth[T any](a, b api.Interval, op func(a, b set) T) (T, api.Errno) {
	return halt.Run(func() T {
		x, y := readSet(a), readSet(b)
		return op(x, y)
	})
}

// one carries out an operation that turns an interval into another one, and an empty one into itself. valid tells whether the integers among the arguments are in their ranges.
func one(a api.Interval, valid bool, op func(a set) set) (api.Interval, api.Errno) {
	return ask(a, func(a set) api.Interval {
		halt.Unless(valid, api.ErrArg)
		if a.empty {
			return a.interval()
		}
		return op(a).interval()
	})
}

// both carries out an operation that turns two intervals into another one, which is empty if one of them is, as one does with one interval.
func both(a, b api.Interval, valid bool, op func(a, b set) set) (api.Interval, api.Errno) {
	return askBoth(a, b, func(a, b set) api.Interval {
		halt.Unless(valid, api.ErrArg)
		switch {
		case a.empty:
			return a.interval()
		case b.empty:
			return b.interval()
		}
		return op(a, b).interval()
	})
}

// rounded carries out an operation on two intervals and rounds its result to the grid of precision p.
func rounded(a, b api.Interval, p int, op func(a, b set) set) (api.Interval, api.Errno) {
	return both(a, b, isPrecision(p), func(a, b set) set { return op(a, b).round(p) })
}

// isPrecision reports whether an operation may round to the grid of precision p.
func isPrecision(p int) bool {
	return p >= 0 && p <= api.MaxPrec
}
