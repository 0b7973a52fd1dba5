// Package fraction implements arithmetic with rational numbers of any size. The layers form with it what has to be exact on the way to a result of bounded size.
package fraction

import (
	"cmp"

	"inequality/api"
	"inequality/natural"
)

// Fraction is a rational number in lowest terms. Its denominator is at least 1, and 0 is not negative.
type Fraction struct {
	neg      bool
	num, den natural.Nat
}

// New returns num / den, with a minus sign if neg is true. den must not be 0.
func New(neg bool, num, den natural.Nat) Fraction {
	if common := num.Gcd(den); !common.IsOne() {
		num, _ = num.Div(common)
		den, _ = den.Div(common)
	}
	return Fraction{neg && !num.IsZero(), num, den}
}

// FromInt returns n.
func FromInt(n int) Fraction {
	size := uint64(n)
	if n < 0 {
		size = -size // the least int has no opposite as an int
	}
	return Fraction{n < 0, natural.FromUint(size), natural.FromUint(1)}
}

// Of returns the fraction that x denotes, or ErrSize if x is large.
func Of(x api.Rat) (Fraction, api.Errno) {
	num, den := natural.Of(x.Num), natural.Of(x.Den)
	if max(len(num), len(den)) > 4*api.MaxWords {
		return Fraction{}, api.ErrSize
	}
	if den.IsZero() {
		den = natural.FromUint(1)
	}
	a := New(x.Neg, num, den)
	if a.Large() {
		return Fraction{}, api.ErrSize
	}
	return a, api.OK
}

// Rat returns the canonical value of a in memory of its own, or ErrSize if it is large.
func (a Fraction) Rat() (api.Rat, api.Errno) {
	if a.Large() {
		return api.Rat{}, api.ErrSize
	}
	x := api.Rat{Neg: a.neg, Num: words(a.num)}
	if !a.den.IsOne() {
		x.Den = words(a.den)
	}
	return x, api.OK
}

// words returns a copy of the words of n, because a number that is given away shares no memory.
func words(n natural.Nat) []uint32 {
	if n.IsZero() {
		return nil
	}
	list := make([]uint32, len(n))
	copy(list, n)
	return list
}

// Large reports whether a is too large for an argument or a result.
func (a Fraction) Large() bool {
	return max(len(a.num), len(a.den)) > api.MaxWords
}

// Num returns the numerator of a without its sign.
func (a Fraction) Num() natural.Nat {
	return a.num
}

// Den returns the denominator of a.
func (a Fraction) Den() natural.Nat {
	return a.den
}

// Sign returns -1, 0 or 1.
func (a Fraction) Sign() int {
	switch {
	case a.neg:
		return -1
	case a.num.IsZero():
		return 0
	}
	return 1
}

// Compare returns -1, 0 or 1 if a is less than b, equal to it, or greater.
func (a Fraction) Compare(b Fraction) int {
	if a.Sign() != b.Sign() {
		return cmp.Compare(a.Sign(), b.Sign())
	}
	return a.num.Mul(b.den).Compare(b.num.Mul(a.den)) * a.sense()
}

// sense returns -1 for a negative number and 1 for any other one.
func (a Fraction) sense() int {
	if a.neg {
		return -1
	}
	return 1
}

// Neg returns -a.
func (a Fraction) Neg() Fraction {
	return Fraction{a.Sign() > 0, a.num, a.den}
}

// Abs returns the absolute value of a.
func (a Fraction) Abs() Fraction {
	return Fraction{false, a.num, a.den}
}

// Add returns a + b. Only a divisor of both denominators can be left in the sum, so that no divisor of two long numbers is needed where one denominator is short.
func (a Fraction) Add(b Fraction) Fraction {
	common := a.den.Gcd(b.den)
	x, _ := a.den.Div(common)
	y, _ := b.den.Div(common)
	neg, num := signedSum(a.neg, a.num.Mul(y), b.neg, b.num.Mul(x))
	sum := New(neg, num, common)
	return Fraction{sum.neg, sum.num, sum.den.Mul(x).Mul(y)}
}

// signedSum returns the sum of two natural numbers with signs.
func signedSum(negX bool, x natural.Nat, negY bool, y natural.Nat) (bool, natural.Nat) {
	switch {
	case negX == negY:
		return negX, x.Add(y)
	case x.Compare(y) < 0:
		return negY, y.Sub(x)
	}
	return negX, x.Sub(y)
}

// Sub returns a - b.
func (a Fraction) Sub(b Fraction) Fraction {
	return a.Add(b.Neg())
}

// Mul returns a * b.
func (a Fraction) Mul(b Fraction) Fraction {
	return New(a.neg != b.neg, a.num.Mul(b.num), a.den.Mul(b.den))
}

// Div returns a / b, or ErrZero if b is 0.
func (a Fraction) Div(b Fraction) (Fraction, api.Errno) {
	if b.Sign() == 0 {
		return Fraction{}, api.ErrZero
	}
	return a.Mul(Fraction{b.neg, b.den, b.num}), api.OK
}

// Pow returns a to the power n, where the power 0 is 1, or ErrZero if a is 0 and n is negative. n must not be the least int.
func (a Fraction) Pow(n int) (Fraction, api.Errno) {
	if n < 0 {
		inverse, err := FromInt(1).Div(a)
		if err != api.OK {
			return Fraction{}, err
		}
		return inverse.Pow(-n)
	}
	return Fraction{a.neg && n%2 == 1, a.num.Pow(n), a.den.Pow(n)}, api.OK
}

// Bits returns the number of binary digits of the numerator or of the denominator, whichever is greater.
func (a Fraction) Bits() int {
	return max(a.num.Bits(), a.den.Bits())
}
