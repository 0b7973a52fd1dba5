package interval

import (
	"cmp"

	"inequality/api"
	"inequality/fraction"
	"inequality/halt"
)

// end is an end of an interval: a number or, if inf is 1 or -1, infinity or its opposite.
type end struct {
	inf   int
	value fraction.Fraction
}

// finite returns the end at x.
func finite(x fraction.Fraction) end {
	return end{value: x}
}

// whole returns the end at the integer n.
func whole(n int) end {
	return finite(fraction.FromInt(n))
}

// read returns the end at the number x.
func read(x api.Rat) end {
	return finite(halt.Must(fraction.Of(x)))
}

// infinite reports whether e is not a number.
func (e end) infinite() bool {
	return e.inf != 0
}

// rat returns the number of e, or 0 if it is infinite, as the canonical interval has it.
func (e end) rat() api.Rat {
	if e.infinite() {
		return api.Rat{}
	}
	return halt.Must(e.value.Rat())
}

// sign returns -1, 0 or 1.
func (e end) sign() int {
	if e.infinite() {
		return e.inf
	}
	return e.value.Sign()
}

// compare returns -1, 0 or 1 if e is less than f, equal to it, or greater.
func (e end) compare(f end) int {
	if e.infinite() || f.infinite() {
		return cmp.Compare(e.inf, f.inf)
	}
	return e.value.Compare(f.value)
}

// least returns the lesser one of e and f.
func (e end) least(f end) end {
	if f.compare(e) < 0 {
		return f
	}
	return e
}

// greatest returns the greater one of e and f.
func (e end) greatest(f end) end {
	if f.compare(e) > 0 {
		return f
	}
	return e
}

// neg returns -e.
func (e end) neg() end {
	if e.infinite() {
		return end{inf: -e.inf}
	}
	return finite(e.value.Neg())
}

// plus returns e + f. They must not be opposite infinities.
func (e end) plus(f end) end {
	switch {
	case e.infinite():
		return e
	case f.infinite():
		return f
	}
	return finite(e.value.Add(f.value))
}

// times returns e * f. If one of them is 0, it is 0 also where the other one is infinite, because 0 times any number is 0.
func (e end) times(f end) end {
	sign := e.sign() * f.sign()
	switch {
	case sign == 0:
		return whole(0)
	case e.infinite() || f.infinite():
		return end{inf: sign}
	}
	return finite(e.value.Mul(f.value))
}

// inverse returns 1 / e, for e other than 0. At an infinite end it is 0, which the inverses approach.
func (e end) inverse() end {
	if e.infinite() {
		return whole(0)
	}
	return finite(halt.Must(fraction.FromInt(1).Div(e.value)))
}

// change returns the end at the result of op. An infinite end stays, because every op that is passed grows with its number without a bound.
func (e end) change(op func(x fraction.Fraction) fraction.Fraction) end {
	if e.infinite() {
		return e
	}
	return finite(op(e.value))
}

// down returns the greatest end on the grid of precision p that is not greater than e.
func (e end) down(p int) end {
	return e.change(func(x fraction.Fraction) fraction.Fraction { return x.Down(p) })
}

// up returns the least end on the grid of precision p that is not less than e.
func (e end) up(p int) end {
	return e.change(func(x fraction.Fraction) fraction.Fraction { return x.Up(p) })
}

// power returns e to the power n, for positive n. n must be odd if e is negative.
func (e end) power(n int) end {
	return e.change(func(x fraction.Fraction) fraction.Fraction { return halt.Must(x.Pow(n)) })
}

// rootDown returns the root of e with the index n, rounded down. n must be odd if e is negative.
func (e end) rootDown(n, p int) end {
	return e.change(func(x fraction.Fraction) fraction.Fraction { return x.RootDown(n, p) })
}

// rootUp returns the root of e with the index n, rounded up. n must be odd if e is negative.
func (e end) rootUp(n, p int) end {
	return e.change(func(x fraction.Fraction) fraction.Fraction { return x.RootUp(n, p) })
}
