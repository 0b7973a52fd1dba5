package interval

import (
	"inequality/api"
	"inequality/elem"
	"inequality/halt"
)

// call returns a set that contains the values of the function fn at all x. Every function but sin and cos rises or falls on the whole of its domain, or between its poles.
func (a set) call(fn, p int) set {
	halt.Unless(a.inDomain(fn), api.ErrDomain)
	switch fn {
	case api.FnSin:
		return a.wave(fn, p, 3, 1)
	case api.FnCos:
		return a.wave(fn, p, 2, 0)
	}
	first, last := a.values(fn, p)
	switch fn {
	case api.FnTan:
		halt.Unless(!a.turns(1) && !a.turns(3), api.ErrDomain)
	case api.FnAcos:
		return set{lo: last.lo, hi: first.hi}
	}
	return set{lo: first.lo, hi: last.hi}
}

// inDomain reports whether the function fn is defined at all x. It does not look for the poles of tan in a bounded set.
func (a set) inDomain(fn int) bool {
	switch fn {
	case api.FnLog:
		return a.lo.sign() > 0
	case api.FnAsin, api.FnAcos:
		return a.inside(set{lo: whole(-1), hi: whole(1)})
	case api.FnTan:
		return a.bounded()
	}
	return true
}

// turns reports whether a multiple of pi/2, with the remainder r when the factor is divided by 4, may be in the set. The set must be bounded, and its ends must be arguments that sin supports.
func (a set) turns(r int) bool {
	return halt.Must(elem.Turns(a.lo.rat(), a.hi.rat(), r))
}

// wave is call for sin and cos, which are -1 at the multiples of pi/2 with the remainder least, and 1 at those with the remainder greatest.
func (a set) wave(fn, p, least, greatest int) set {
	result := set{lo: whole(-1), hi: whole(1)}
	if !a.bounded() {
		return result
	}
	first, last := a.values(fn, p)
	if !a.turns(least) {
		result.lo = first.lo.least(last.lo)
	}
	if !a.turns(greatest) {
		result.hi = first.hi.greatest(last.hi)
	}
	return result
}

// values returns bounds of the function fn at the lower end and at the upper end.
func (a set) values(fn, p int) (first, last set) {
	first = a.lo.bracket(fn, p)
	if a.lo.compare(a.hi) == 0 {
		return first, first
	}
	return first, a.hi.bracket(fn, p)
}

// bracket returns bounds of the function fn at e. At an infinite end both are where the values lead to.
func (e end) bracket(fn, p int) set {
	if e.infinite() {
		limit := e.limit(fn, p)
		return set{lo: limit, hi: limit}
	}
	b := halt.Must(elem.Apply(fn, e.rat(), p))
	return set{lo: read(b.Lo), hi: read(b.Hi)}
}

// limit returns the end to which the values of exp, log or atan lead at the infinite end e. That of atan is rounded outward.
func (e end) limit(fn, p int) end {
	switch {
	case fn == api.FnAtan:
		pi := read(halt.Must(elem.Pi(p)).Hi)
		return pi.times(whole(2).inverse()).up(p).times(whole(e.inf))
	case e.inf < 0: // of exp: log has no such end
		return whole(0)
	}
	return e
}
