package elem

import (
	"inequality/api"
	"inequality/fraction"
	"inequality/natural"
)

// span is a pair of bounds of a real number, the lower one first.
type span [2]fraction.Fraction

// point returns the bounds of the integer n, which are both n.
func point(n int) span {
	return span{fraction.FromInt(n), fraction.FromInt(n)}
}

// neg returns the bounds of the opposite number.
func (s span) neg() span {
	return span{s[1].Neg(), s[0].Neg()}
}

// plus returns the bounds of the sum of two numbers.
func (s span) plus(t span) span {
	return span{s[0].Add(t[0]), s[1].Add(t[1])}
}

// minus returns the bounds of the difference of two numbers.
func (s span) minus(t span) span {
	return s.plus(t.neg())
}

// times returns the bounds of n times the number, for n that is not negative.
func (s span) times(n int) span {
	return s.scaled(fraction.FromInt(n))
}

// half returns the bounds of half the number.
func (s span) half() span {
	return s.scaled(oneOver(2))
}

// scaled returns both bounds multiplied by x, which must not be negative.
func (s span) scaled(x fraction.Fraction) span {
	return span{s[0].Mul(x), s[1].Mul(x)}
}

// inverse returns the bounds of 1 divided by the number, for bounds above 0.
func (s span) inverse() span {
	one := fraction.FromInt(1)
	return span{quotient(one, s[1]), quotient(one, s[0])}
}

// with returns the bounds, moved so far that x is between them.
func (s span) with(x fraction.Fraction) span {
	if x.Compare(s[0]) < 0 {
		s[0] = x
	}
	if x.Compare(s[1]) > 0 {
		s[1] = x
	}
	return s
}

// round returns the bracket with precision p.
func (s span) round(p int) (api.Bracket, api.Errno) {
	low, err := s[0].Down(p).Rat()
	if err != api.OK {
		return api.Bracket{}, err
	}
	high, err := s[1].Up(p).Rat()
	if err != api.OK {
		return api.Bracket{}, err
	}
	return api.Bracket{Lo: low, Hi: high}, api.OK
}

// oneOver returns 1 / n, for n other than 0.
func oneOver(n uint64) fraction.Fraction {
	return fraction.New(false, natural.FromUint(1), natural.FromUint(n))
}

// quotient returns a / b, for b other than 0.
func quotient(a, b fraction.Fraction) fraction.Fraction {
	q, _ := a.Div(b) // the only error is that of a b that is 0
	return q
}
