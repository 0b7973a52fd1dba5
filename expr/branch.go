package expr

import (
	"slices"

	"inequality/api"
)

// Branch resolves the first absolute value, minimum, maximum or case distinction in e. It returns a condition, and e as it is where the condition is at least 0, and elsewhere.
func Branch(e api.Expr) (cond, yes, no api.Expr, err api.Errno) {
	e, err = read(e)
	if err != api.OK {
		return api.Expr{}, api.Expr{}, api.Expr{}, err
	}
	cond, yes, no, found := branch(e)
	if !found {
		return api.Expr{}, api.Expr{}, api.Expr{}, api.ErrSmooth
	}
	// None of them is larger or deeper than e, so there is no ErrLimit.
	return fresh(cond), fresh(yes), fresh(no), api.OK
}

// branch does what Branch does, or returns false if e is smooth. Of a case distinction only the condition is looked at, so that it is resolved as soon as this is smooth.
func branch(e api.Expr) (cond, yes, no api.Expr, found bool) {
	kids := e.Kids
	if e.Op == api.OpIf {
		kids = kids[:1]
	}
	for i, kid := range kids {
		cond, yes, no, found = branch(kid)
		if found {
			return cond, withKid(e, i, yes), withKid(e, i, no), true
		}
	}
	if !isBranching(e) {
		return api.Expr{}, api.Expr{}, api.Expr{}, false
	}
	cond, yes, no = resolve(e)
	return cond, yes, no, true
}

// withKid returns e with another kid at i.
func withKid(e api.Expr, i int, kid api.Expr) api.Expr {
	e.Kids = slices.Clone(e.Kids)
	e.Kids[i] = kid
	return e
}

// resolve returns the condition and the two cases of a node that is defined by cases.
func resolve(e api.Expr) (cond, yes, no api.Expr) {
	a := e.Kids[0]
	switch e.Op {
	case api.OpAbs:
		return a, a, node(api.OpNeg, a)
	case api.OpMin:
		return node(api.OpSub, e.Kids[1], a), a, e.Kids[1]
	case api.OpMax:
		return node(api.OpSub, a, e.Kids[1]), a, e.Kids[1]
	}
	return a, e.Kids[1], e.Kids[2]
}
