package elem

import (
	"inequality/fraction"
	"inequality/natural"
)

// precision is a working precision w. What a series forms with it is on the grid of precision w and not negative, and is kept as a number of units of 2^-w.
type precision int

// bounds are a lower and an upper bound of a number, in units.
type bounds [2]fixed

// units returns the number of units of n.
func (w precision) units(n uint64) fixed {
	var f fixed
	skip, shift := w/64, w%64
	f[skip], f[skip+1] = n<<shift, n>>(64-shift)
	return f
}

// around returns the grid numbers next to x, which must not be negative.
func (w precision) around(x fraction.Fraction) bounds {
	whole, rest := x.Num().Shl(int(w)).Div(x.Den())
	low := fixedOf(whole)
	return bounds{low, up(low, !rest.IsZero())}
}

// number returns the number of n units.
func (w precision) number(n fixed) fraction.Fraction {
	return fraction.New(false, n.natural(), natural.FromUint(1).Shl(int(w)))
}

// span returns the bounds as numbers.
func (w precision) span(b bounds) span {
	return span{w.number(b[0]), w.number(b[1])}
}

// times returns the bounds of n times a number.
func (b bounds) times(n uint64) bounds {
	return bounds{b[0].times(n), b[1].times(n)}
}

// product returns the products of the bounds of two numbers, rounded outwards.
func (w precision) product(a, b bounds) bounds {
	return bounds{down(w.multiply(a[0], b[0])), up(w.multiply(a[1], b[1]))}
}

// steps describes a series, which is summed from its last step to step 0: step i turns a sum s into (whole + times * x * s) / over, or into (whole - times * x * s) / over if the signs alternate.
type steps func(i int) (whole, times, over uint64)

// sum carries out the steps of a series at x, rounded outwards. It begins with the sum start.
func (w precision) sum(start bounds, last int, step steps, x bounds) bounds {
	s := start
	for i := last; i >= 0; i-- {
		whole, times, over := step(i)
		first, rest := w.units(whole), w.product(x.times(times), s)
		s = bounds{down(first.plus(rest[0]).over(over)), up(first.plus(rest[1]).over(over))}
	}
	return s
}

// alternate is sum for a series whose signs alternate: there each bound is formed with the other one.
func (w precision) alternate(start bounds, last int, step steps, x bounds) bounds {
	s := start
	for i := last; i >= 0; i-- {
		whole, times, over := step(i)
		first, rest := w.units(whole), w.product(x.times(times), s)
		s = bounds{down(first.minus(rest[1]).over(over)), up(first.minus(rest[0]).over(over))}
	}
	return s
}

// upToOne returns the bounds 0 and 1, with which most series begin.
func (w precision) upToOne() bounds {
	return bounds{fixed{}, w.units(1)}
}

// odd returns the steps of 1 + x/3 + x^2/5 + .. where the sum that begins with 1 is to begin with 1 / tail. That number is not on the grid, so it is a part of the last step.
func odd(last int, tail uint64) steps {
	return func(i int) (whole, times, over uint64) {
		n := 2*uint64(i) + 1
		if i == last {
			return tail, n, tail * n
		}
		return 1, n, n
	}
}

// quotients returns the steps of 1 + x/divisor(0) + x^2/(divisor(0)*divisor(1)) + ..
func quotients(divisor func(i uint64) uint64) steps {
	return func(i int) (whole, times, over uint64) {
		d := divisor(uint64(i))
		return d, 1, d
	}
}
