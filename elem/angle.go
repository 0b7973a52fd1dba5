package elem

import (
	"inequality/api"
	"inequality/fraction"
)

// pi returns bounds of pi, by Machin's formula.
func (w precision) pi() span {
	a, b := w.arctangent(w.around(oneOver(5))), w.arctangent(w.around(oneOver(239)))
	return w.span(a.times(16)).minus(w.span(b.times(4)))
}

// arctangent returns bounds of the arctangent of a number from 0 to 1/4.
func (w precision) arctangent(y bounds) bounds {
	sum := w.alternate(w.upToOne(), 39, odd(39, 81), w.product(y, y))
	return w.product(y, sum)
}

// sin returns bounds of the sine of x.
func (w precision) sin(x fraction.Fraction) span {
	quarters, rest := w.reduce(x)
	return w.turned(quarters, rest)
}

// cos returns bounds of the cosine of x, which is the sine of a quarter turn more.
func (w precision) cos(x fraction.Fraction) span {
	quarters, rest := w.reduce(x)
	return w.turned(quarters+1, rest)
}

// tan returns bounds of the tangent of x, or ErrRange if those of the cosine do not tell its sign.
func (w precision) tan(x fraction.Fraction) (span, api.Errno) {
	quarters, rest := w.reduce(x)
	sine, cosine := w.turned(quarters, rest), w.turned(quarters+1, rest)
	if cosine[0].Sign() <= 0 && cosine[1].Sign() >= 0 {
		return span{}, api.ErrRange
	}
	first := quotient(sine[0], cosine[0])
	hull := span{first, first}
	for _, a := range sine {
		for _, b := range cosine {
			hull = hull.with(quotient(a, b))
		}
	}
	return hull, api.OK
}

// reduce returns the number of quarter turns in x, and bounds of the rest, which is at most about half a quarter turn.
func (w precision) reduce(x fraction.Fraction) (int64, span) {
	quarter := w.pi().half()
	k := quotient(x, quarter[0]).Add(oneOver(2)).Down(0)
	least, most := x.Sub(k.Mul(quarter[1])), x.Sub(k.Mul(quarter[0]))
	if k.Sign() < 0 {
		least, most = most, least
	}
	return whole(k), span{least.Down(int(w)), most.Up(int(w))}
}

// whole returns the integer k, whose absolute value must be less than 2^63.
func whole(k fraction.Fraction) int64 {
	size := int64(fixedOf(k.Num())[0])
	if k.Sign() < 0 {
		return -size
	}
	return size
}

// turned returns bounds of the sine of a number of quarter turns and a rest.
func (w precision) turned(quarters int64, rest span) span {
	value := w.sine
	if quarters&1 == 1 {
		value = w.cosine
	}
	if quarters&2 == 2 {
		return value(rest).neg()
	}
	return value(rest)
}

// sine returns bounds of the sine of a number from -1 to 1. It rises there.
func (w precision) sine(rest span) span {
	return span{w.sineAt(rest[0])[0], w.sineAt(rest[1])[1]}
}

// sineAt returns bounds of the sine of the grid number x from -1 to 1.
func (w precision) sineAt(x fraction.Fraction) span {
	y := w.around(x.Abs())
	step := quotients(func(i uint64) uint64 { return (2*i + 2) * (2*i + 3) })
	sum := w.alternate(w.upToOne(), 23, step, w.product(y, y))
	size := w.span(w.product(y, sum))
	if x.Sign() < 0 {
		return size.neg()
	}
	return size
}

// cosine returns bounds of the cosine of a number from -1 to 1. It falls with the absolute value there.
func (w precision) cosine(rest span) span {
	near, far := rest[0].Abs(), rest[1].Abs()
	if near.Compare(far) > 0 {
		near, far = far, near
	}
	if rest[0].Sign() <= 0 && rest[1].Sign() >= 0 {
		near = fraction.FromInt(0)
	}
	return span{w.cosineAt(far)[0], w.cosineAt(near)[1]}
}

// cosineAt returns bounds of the cosine of the grid number x from 0 to 1.
func (w precision) cosineAt(x fraction.Fraction) span {
	y := w.around(x)
	step := quotients(func(i uint64) uint64 { return (2*i + 1) * (2*i + 2) })
	return w.span(w.alternate(w.upToOne(), 23, step, w.product(y, y)))
}

// Turns reports whether a multiple of pi/2, with the remainder r when the factor is divided by 4, may lie between lo and hi.
func Turns(lo, hi api.Rat, r int) (bool, api.Errno) {
	low, err := fraction.Of(lo)
	if err != api.OK {
		return false, err
	}
	high, err := fraction.Of(hi)
	switch {
	case err != api.OK:
		return false, err
	case r < 0 || r > 3:
		return false, api.ErrArg
	case !supported(api.FnSin, low) || !supported(api.FnSin, high):
		return false, api.ErrRange
	case low.Compare(high) > 0:
		return false, api.OK
	}
	first, last := factors(low, high)
	return first+(int64(r)-first)&3 <= last, api.OK
}

// factors returns the least and the greatest factor of pi/2 whose product may lie between low and high. There is none if the first result exceeds the second one.
func factors(low, high fraction.Fraction) (first, last int64) {
	quarter := precision(api.MaxPrec + 64).pi().half()
	// A product reaches a low above 0 if it does so as far from 0 as it may lie, and any other low if it does so as near to 0 as it may lie; and high likewise.
	near, far := quarter[0], quarter[1]
	below, above := near, near
	if low.Sign() > 0 {
		below = far
	}
	if high.Sign() < 0 {
		above = far
	}
	return whole(quotient(low, below).Up(0)), whole(quotient(high, above).Down(0))
}
