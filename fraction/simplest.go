package fraction

import (
	"inequality/api"
	"inequality/natural"
)

// Simplest returns, of the numbers from x to y, the one with the least denominator and then the least absolute value, or ErrOrder if x is greater than y.
func Simplest(x, y Fraction) (Fraction, api.Errno) {
	switch {
	case x.Compare(y) > 0:
		return Fraction{}, api.ErrOrder
	case x.Sign() > 0:
		return simplest(x, y), api.OK
	case y.Sign() < 0:
		return simplest(y.Neg(), x.Neg()).Neg(), api.OK
	}
	return FromInt(0), api.OK
}

// simplest is Simplest for 0 < x <= y. The continued fraction of the result is that of x and y as far as they agree, and ends with the least integer that is between what is left of them.
func simplest(x, y Fraction) Fraction {
	one := natural.FromUint(1)
	low, high := x, y
	last, now := Fraction{den: one}, Fraction{num: one} // 0 / 1 and 1 / 0, with which the convergents begin
	for {
		whole, rest := low.num.Div(low.den)
		if rest.IsZero() {
			return last.follow(now, whole)
		}
		next := whole.Add(one)
		if next.Mul(high.den).Compare(high.num) <= 0 {
			return last.follow(now, next)
		}
		last, now = now, last.follow(now, whole)
		left := high.num.Sub(whole.Mul(high.den))
		low, high = Fraction{num: high.den, den: left}, Fraction{num: low.den, den: rest}
	}
}

// follow returns the convergent that comes after a and b with the next quotient q. Convergents are in lowest terms.
func (a Fraction) follow(b Fraction, q natural.Nat) Fraction {
	return Fraction{num: q.Mul(b.num).Add(a.num), den: q.Mul(b.den).Add(a.den)}
}
