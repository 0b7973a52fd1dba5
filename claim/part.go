package claim

import (
	"slices"

	"inequality/api"
	"inequality/enclose"
	"inequality/halt"
	"inequality/interval"
)

// part is a part of a region's box, over which expressions are enclosed with the precision p.
type part struct {
	box []api.Side
	p   int
}

// requirePrecision ends an operation if there are no enclosures with precision p.
func requirePrecision(p int) {
	halt.Unless(p >= 0 && p <= api.MaxPrec, api.ErrArg)
}

// pin returns the part of a claim's box that is a point of it alone.
func pin(c api.Claim, at []api.Value, p int) part {
	return part{halt.Must(enclose.At(c.Box, at)), p}
}

// member does what Member does for a claim that has been read.
func member(c api.Claim, at []api.Value, p int) int {
	in := halt.Must(enclose.Holds(c.Box, at))
	requirePrecision(p)
	if !in {
		return -1
	}
	here := pin(c, at, p)
	switch {
	case slices.ContainsFunc(c.Conds, here.excludes):
		return -1
	case slices.ContainsFunc(c.Conds, func(k api.Cond) bool { return !here.shows(k) }):
		return 0
	}
	return 1
}

// sign returns the sign of the range of e over the part. Where e has no range, nothing is known of it, as of one with both signs.
func (a part) sign(e api.Expr) int {
	values, err := enclose.Range(e, a.box, a.p)
	if err != api.OK {
		return api.SignMixed
	}
	return halt.Must(interval.Sign(values))
}

// shows reports whether k is seen to hold on the whole part.
func (a part) shows(k api.Cond) bool {
	switch a.sign(k.E) {
	case api.SignPos:
		return true
	case api.SignNonNeg, api.SignZero:
		return !k.Strict
	}
	return false
}

// excludes reports whether k is seen to hold nowhere on the part.
func (a part) excludes(k api.Cond) bool {
	switch a.sign(k.E) {
	case api.SignNeg:
		return true
	case api.SignNonPos, api.SignZero:
		return k.Strict
	}
	return false
}
