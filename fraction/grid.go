package fraction

import "inequality/natural"

// onGrid returns n / 2^p, with a minus sign if neg is true.
func onGrid(neg bool, n natural.Nat, p int) Fraction {
	return New(neg, n, natural.FromUint(1).Shl(p))
}

// Down returns the greatest number of the grid of precision p that is not greater than a.
func (a Fraction) Down(p int) Fraction {
	quotient, rest := a.num.Shl(p).Div(a.den)
	if a.neg && !rest.IsZero() {
		quotient = quotient.Add(natural.FromUint(1))
	}
	return onGrid(a.neg, quotient, p)
}

// Up returns the least number of the grid of precision p that is not less than a.
func (a Fraction) Up(p int) Fraction {
	return a.Neg().Down(p).Neg()
}

// Root returns the rational root of a with the index n, which is not negative if n is even, and true; or false if there is none.
func (a Fraction) Root(n int) (Fraction, bool) {
	num, den := a.num.Root(n), a.den.Root(n)
	perfect := num.Pow(n).Compare(a.num) == 0 && den.Pow(n).Compare(a.den) == 0
	if !perfect || a.neg && n%2 == 0 {
		return Fraction{}, false
	}
	return Fraction{a.neg, num, den}, true
}

// RootDown returns the greatest number of the grid of precision p that is not greater than the real root of a with the index n. n must be odd if a is negative.
func (a Fraction) RootDown(n, p int) Fraction {
	size, exact := a.gridRoot(n, p)
	if a.neg && !exact {
		size = size.Add(natural.FromUint(1))
	}
	return onGrid(a.neg, size, p)
}

// RootUp returns the least number of the grid of precision p that is not less than the real root of a with the index n. n must be odd if a is negative.
func (a Fraction) RootUp(n, p int) Fraction {
	size, exact := a.gridRoot(n, p)
	if !a.neg && !exact {
		size = size.Add(natural.FromUint(1))
	}
	return onGrid(a.neg, size, p)
}

// gridRoot returns the greatest r for which r / 2^p is not greater than the root of the absolute value of a, and whether it is that root.
func (a Fraction) gridRoot(n, p int) (natural.Nat, bool) {
	scaled, rest := a.num.Shl(n * p).Div(a.den)
	root := scaled.Root(n)
	return root, rest.IsZero() && root.Pow(n).Compare(scaled) == 0
}
