package elem

import "inequality/fraction"

// exp returns bounds of the exponential of x.
func (w precision) exp(x fraction.Fraction) span {
	size := w.span(w.growth(w.around(x.Abs())))
	if x.Sign() < 0 {
		return size.inverse()
	}
	return size
}

// growth returns bounds of the exponential of a number from 0 to 64: the series is that of the number divided by 256, and its sum is squared until it belongs to the number itself.
func (w precision) growth(y bounds) bounds {
	step := quotients(func(i uint64) uint64 { return 256 * (i + 1) })
	h := w.sum(bounds{w.units(1), w.units(2)}, 39, step, y)
	for range 8 {
		h = w.product(h, h)
	}
	return h
}

// log returns bounds of the natural logarithm of x, which is above 0. It is a multiple of that of 2, and the one of a number from 1 to 2.
func (w precision) log(x fraction.Fraction) span {
	e, z := binary(x)
	two, rest := w.span(w.ratio(oneOver(3))), w.span(w.ratio(z))
	if e < 0 {
		return rest.minus(two.times(-e))
	}
	return rest.plus(two.times(e))
}

// binary returns the integer e with 2^e <= x < 2^(e+1), and (x - 2^e) / (x + 2^e).
func binary(x fraction.Fraction) (int, fraction.Fraction) {
	num, den := x.Num(), x.Den()
	e := num.Bits() - den.Bits()
	if num.Shl(max(-e, 0)).Compare(den.Shl(max(e, 0))) < 0 {
		e--
	}
	num, den = num.Shl(max(-e, 0)), den.Shl(max(e, 0))
	return e, fraction.New(false, num.Sub(den), num.Add(den))
}

// ratio returns bounds of the logarithm of (1 + z) / (1 - z), for z from 0 to 1/3.
func (w precision) ratio(z fraction.Fraction) bounds {
	y := w.around(z)
	sum := w.sum(w.upToOne(), 55, odd(55, 100), w.product(y, y))
	return w.product(y.times(2), sum)
}
