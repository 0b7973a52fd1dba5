package interval

import (
	"inequality/api"
	"inequality/halt"
	"inequality/number"
)

// set is an interval whose numbers are of any size. Unless it is empty, lo is not greater than hi, and operations expect that it is not empty where they do not say so.
type set struct {
	lo, hi end
	empty  bool
}

// from returns the set of the numbers from lo to hi, which is empty if lo is greater than hi.
func from(lo, hi end) set {
	return set{lo, hi, lo.compare(hi) > 0}
}

// readSet returns the set that a denotes.
func readSet(a api.Interval) set {
	lo, hi := read(a.Lo), read(a.Hi) // large numbers count also where an infinity stands for them
	if a.LoInf {
		lo = end{inf: -1}
	}
	if a.HiInf {
		hi = end{inf: 1}
	}
	return from(lo, hi)
}

// interval returns the canonical interval that denotes the set, which may be empty.
func (a set) interval() api.Interval {
	if a.empty {
		return api.Interval{Lo: number.FromInt(1)}
	}
	return api.Interval{Lo: a.lo.rat(), Hi: a.hi.rat(), LoInf: a.lo.infinite(), HiInf: a.hi.infinite()}
}

// bounded reports whether the set, which may be empty, has no infinite end.
func (a set) bounded() bool {
	return !a.lo.infinite() && !a.hi.infinite()
}

// has reports whether x is in the set, which may be empty.
func (a set) has(x end) bool {
	return a.lo.compare(x) <= 0 && x.compare(a.hi) <= 0
}

// hasZero reports whether 0 is in the set.
func (a set) hasZero() bool {
	return a.lo.sign() <= 0 && a.hi.sign() >= 0
}

// inside reports whether all numbers of a are in b. Both may be empty.
func (a set) inside(b set) bool {
	return a.empty || b.lo.compare(a.lo) <= 0 && a.hi.compare(b.hi) <= 0
}

// meet returns the set of the numbers that are in both a and b.
func (a set) meet(b set) set {
	return from(a.lo.greatest(b.lo), a.hi.least(b.hi))
}

// hull returns the least set that contains a and b, which may be empty.
func (a set) hull(b set) set {
	switch {
	case a.empty:
		return b
	case b.empty:
		return a
	}
	return set{lo: a.lo.least(b.lo), hi: a.hi.greatest(b.hi)}
}

// middle returns a number of the set. If the set is empty, there is none.
func (a set) middle() api.Rat {
	halt.Unless(!a.empty, api.ErrArg)
	switch {
	case a.bounded():
		return halt.Must(number.Middle(a.lo.rat(), a.hi.rat()))
	case !a.lo.infinite():
		return halt.Must(number.Add(a.lo.rat(), number.FromInt(1)))
	case !a.hi.infinite():
		return halt.Must(number.Sub(a.hi.rat(), number.FromInt(1)))
	}
	return number.FromInt(0)
}

// sign returns the sign of the numbers of the set, which may be empty.
func (a set) sign() int {
	low, high := a.lo.sign(), a.hi.sign()
	switch {
	case a.empty:
		return api.SignEmpty
	case low > 0:
		return api.SignPos
	case high < 0:
		return api.SignNeg
	case low == 0 && high == 0:
		return api.SignZero
	case low == 0:
		return api.SignNonNeg
	case high == 0:
		return api.SignNonPos
	}
	return api.SignMixed
}

// round returns the set with its ends moved outward to the grid of precision p.
func (a set) round(p int) set {
	return set{lo: a.lo.down(p), hi: a.hi.up(p)}
}

// neg returns the set of all -x.
func (a set) neg() set {
	return set{lo: a.hi.neg(), hi: a.lo.neg()}
}

// abs returns the set of the absolute values of all x.
func (a set) abs() set {
	switch {
	case a.lo.sign() >= 0:
		return a
	case a.hi.sign() <= 0:
		return a.neg()
	}
	return set{lo: whole(0), hi: a.lo.neg().greatest(a.hi)}
}

// lesser returns the set of the lesser ones of all x and y.
func (a set) lesser(b set) set {
	return set{lo: a.lo.least(b.lo), hi: a.hi.least(b.hi)}
}

// greater returns the set of the greater ones of all x and y.
func (a set) greater(b set) set {
	return set{lo: a.lo.greatest(b.lo), hi: a.hi.greatest(b.hi)}
}

// plus returns the set of all x + y.
func (a set) plus(b set) set {
	return set{lo: a.lo.plus(b.lo), hi: a.hi.plus(b.hi)}
}

// minus returns the set of all x - y.
func (a set) minus(b set) set {
	return a.plus(b.neg())
}

// times returns the set of all x * y.
func (a set) times(b set) set {
	switch {
	case a.lo.sign() >= 0:
		return a.scale(b)
	case a.hi.sign() <= 0:
		return a.neg().scale(b).neg()
	case b.lo.sign() >= 0:
		return b.scale(a)
	case b.hi.sign() <= 0:
		return b.neg().scale(a).neg()
	}
	low, high := a.lo.times(b.hi), a.hi.times(b.lo)
	left, right := a.lo.times(b.lo), a.hi.times(b.hi)
	return set{lo: low.least(high), hi: left.greatest(right)}
}

// scale is times for a set a without negative numbers. The product that is farthest out has the greatest number of a as a factor if it is on its own side of 0, and otherwise the least one.
func (a set) scale(b set) set {
	low, high := a.hi, a.hi
	if b.lo.sign() > 0 {
		low = a.lo
	}
	if b.hi.sign() < 0 {
		high = a.lo
	}
	return set{lo: low.times(b.lo), hi: high.times(b.hi)}
}

// over returns the hull of all x / y.
func (a set) over(b set) set {
	return a.times(b.inverse())
}

// inverse returns the hull of all 1 / x. If a is unbounded, the hull has the end 0, which is no inverse; but inverses come as near to 0 as one likes, so the hull of what is formed from it stays the same.
func (a set) inverse() set {
	if a.hasZero() {
		panic(api.ErrZero)
	}
	return set{lo: a.hi.inverse(), hi: a.lo.inverse()}
}

// power returns the hull of all x to the power n, where the power 0 is 1.
func (a set) power(n int) set {
	switch {
	case n == 0:
		return set{lo: whole(1), hi: whole(1)}
	case n < 0:
		return a.inverse().power(-n)
	case n%2 == 0:
		a = a.abs()
	}
	return set{lo: a.lo.power(n), hi: a.hi.power(n)}
}

// root returns the hull of the roots of all x with the index n, rounded outward.
func (a set) root(n, p int) set {
	halt.Unless(n%2 == 1 || a.lo.sign() >= 0, api.ErrDomain)
	return set{lo: a.lo.rootDown(n, p), hi: a.hi.rootUp(n, p)}
}
