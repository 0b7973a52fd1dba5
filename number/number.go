// Package number implements exact arithmetic with rational numbers of bounded size, rounding to binary grids, roots on a grid, and the texts of numbers.
package number

import (
	"inequality/api"
	"inequality/fraction"
)

// unary carries out an operation on the number x in lowest terms. The errors about sizes are here: that of the argument comes before all others, that of the result after them.
func unary(x api.Rat, op func(a fraction.Fraction) (fraction.Fraction, api.Errno)) (api.Rat, api.Errno) {
	a, err := fraction.Of(x)
	if err != api.OK {
		return api.Rat{}, err
	}
	result, err := op(a)
	if err != api.OK {
		return api.Rat{}, err
	}
	return result.Rat()
}

// binary carries out an operation on two numbers in lowest terms, as unary does on one.
func binary(x, y api.Rat, op func(a, b fraction.Fraction) (fraction.Fraction, api.Errno)) (api.Rat, api.Errno) {
	return unary(x, func(a fraction.Fraction) (fraction.Fraction, api.Errno) {
		b, err := fraction.Of(y)
		if err != api.OK {
			return fraction.Fraction{}, err
		}
		return op(a, b)
	})
}

// change is unary for an operation that has no errors of its own.
func change(x api.Rat, op func(a fraction.Fraction) fraction.Fraction) (api.Rat, api.Errno) {
	return unary(x, func(a fraction.Fraction) (fraction.Fraction, api.Errno) {
		return op(a), api.OK
	})
}

// combine is binary for an operation that has no errors of its own.
func combine(x, y api.Rat, op func(a, b fraction.Fraction) fraction.Fraction) (api.Rat, api.Errno) {
	return binary(x, y, func(a, b fraction.Fraction) (fraction.Fraction, api.Errno) {
		return op(a, b), api.OK
	})
}

// Canon returns the canonical value that is equal to x.
func Canon(x api.Rat) (api.Rat, api.Errno) {
	return change(x, func(a fraction.Fraction) fraction.Fraction { return a })
}

// FromInt returns the canonical value of n.
func FromInt(n int) api.Rat {
	x, _ := fraction.FromInt(n).Rat() // no int is large
	return x
}

// Sign returns -1, 0 or 1.
func Sign(x api.Rat) (int, api.Errno) {
	a, err := fraction.Of(x)
	if err != api.OK {
		return 0, err
	}
	return a.Sign(), api.OK
}

// Compare returns -1, 0 or 1 if x is less than y, equal to it, or greater.
func Compare(x, y api.Rat) (int, api.Errno) {
	a, err := fraction.Of(x)
	if err != api.OK {
		return 0, err
	}
	b, err := fraction.Of(y)
	if err != api.OK {
		return 0, err
	}
	return a.Compare(b), api.OK
}

// Neg returns -x.
func Neg(x api.Rat) (api.Rat, api.Errno) {
	return change(x, fraction.Fraction.Neg)
}

// Abs returns the absolute value of x.
func Abs(x api.Rat) (api.Rat, api.Errno) {
	return change(x, fraction.Fraction.Abs)
}

// Add returns x + y.
func Add(x, y api.Rat) (api.Rat, api.Errno) {
	return combine(x, y, fraction.Fraction.Add)
}

// Sub returns x - y.
func Sub(x, y api.Rat) (api.Rat, api.Errno) {
	return combine(x, y, fraction.Fraction.Sub)
}

// Mul returns x * y.
func Mul(x, y api.Rat) (api.Rat, api.Errno) {
	return combine(x, y, fraction.Fraction.Mul)
}

// Div returns x / y, or ErrZero if y is 0.
func Div(x, y api.Rat) (api.Rat, api.Errno) {
	return binary(x, y, fraction.Fraction.Div)
}

// Pow returns x to the power n, where the power 0 is 1.
func Pow(x api.Rat, n int) (api.Rat, api.Errno) {
	return unary(x, func(a fraction.Fraction) (fraction.Fraction, api.Errno) {
		if n < -api.MaxPow || n > api.MaxPow {
			return fraction.Fraction{}, api.ErrArg
		}
		return a.Pow(n)
	})
}

// Floor returns the greatest integer that is not greater than x.
func Floor(x api.Rat) (api.Rat, api.Errno) {
	return Down(x, 0)
}

// Ceil returns the least integer that is not less than x.
func Ceil(x api.Rat) (api.Rat, api.Errno) {
	return Up(x, 0)
}

// Down returns the greatest number of the grid of precision p that is not greater than x.
func Down(x api.Rat, p int) (api.Rat, api.Errno) {
	return round(x, p, fraction.Fraction.Down)
}

// Up returns the least number of the grid of precision p that is not less than x.
func Up(x api.Rat, p int) (api.Rat, api.Errno) {
	return round(x, p, fraction.Fraction.Up)
}

// round carries out an operation that rounds to the grid of precision p.
func round(x api.Rat, p int, op func(a fraction.Fraction, p int) fraction.Fraction) (api.Rat, api.Errno) {
	return unary(x, func(a fraction.Fraction) (fraction.Fraction, api.Errno) {
		if !isPrecision(p) {
			return fraction.Fraction{}, api.ErrArg
		}
		return op(a, p), api.OK
	})
}

// isPrecision reports whether a grid has the precision p.
func isPrecision(p int) bool {
	return p >= 0 && p <= 2*api.MaxPrec
}

// isIndex reports whether n is the index of a root.
func isIndex(n int) bool {
	return n >= 2 && n <= api.MaxRoot
}

// Root returns the rational root of x with the index n and true, or false if there is none.
func Root(x api.Rat, n int) (api.Rat, bool, api.Errno) {
	found := false
	root, err := unary(x, func(a fraction.Fraction) (fraction.Fraction, api.Errno) {
		if !isIndex(n) {
			return fraction.Fraction{}, api.ErrArg
		}
		var r fraction.Fraction
		r, found = a.Root(n)
		return r, api.OK
	})
	return root, found, err
}

// RootDown returns the greatest number of the grid of precision p that is not greater than the real root of x with the index n.
func RootDown(x api.Rat, n, p int) (api.Rat, api.Errno) {
	return roundRoot(x, n, p, fraction.Fraction.RootDown)
}

// RootUp returns the least number of the grid of precision p that is not less than the real root of x with the index n.
func RootUp(x api.Rat, n, p int) (api.Rat, api.Errno) {
	return roundRoot(x, n, p, fraction.Fraction.RootUp)
}

// roundRoot carries out an operation that rounds a root to the grid of precision p.
func roundRoot(x api.Rat, n, p int, op func(a fraction.Fraction, n, p int) fraction.Fraction) (api.Rat, api.Errno) {
	return unary(x, func(a fraction.Fraction) (fraction.Fraction, api.Errno) {
		switch {
		case !isIndex(n) || !isPrecision(p):
			return fraction.Fraction{}, api.ErrArg
		case n%2 == 0 && a.Sign() < 0:
			return fraction.Fraction{}, api.ErrDomain
		}
		return op(a, n, p), api.OK
	})
}

// Middle returns (x + y) / 2.
func Middle(x, y api.Rat) (api.Rat, api.Errno) {
	return binary(x, y, func(a, b fraction.Fraction) (fraction.Fraction, api.Errno) {
		return a.Add(b).Div(fraction.FromInt(2))
	})
}

// Simplest returns, of the numbers from x to y, the one with the least denominator and then the least absolute value, or ErrOrder if x is greater than y.
func Simplest(x, y api.Rat) (api.Rat, api.Errno) {
	return binary(x, y, fraction.Simplest)
}

// Bits returns the number of binary digits of the numerator of x or of its denominator, whichever is greater.
func Bits(x api.Rat) (int, api.Errno) {
	a, err := fraction.Of(x)
	if err != api.OK {
		return 0, err
	}
	return a.Bits(), api.OK
}
