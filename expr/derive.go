package expr

import "inequality/api"

// Smooth reports whether e contains no absolute value, minimum, maximum or case distinction.
func Smooth(e api.Expr) (bool, api.Errno) {
	if !Valid(e) {
		return false, api.ErrNode
	}
	return smooth(e), api.OK
}

// smooth is Smooth of a valid expression.
func smooth(e api.Expr) bool {
	for _, n := range nodes(e) {
		if isBranching(n) {
			return false
		}
	}
	return true
}

// isBranching reports whether a node is of a kind that is defined by cases.
func isBranching(n api.Expr) bool {
	return n.Op >= api.OpAbs && n.Op <= api.OpIf
}

// Derive returns the derivative of e with respect to a variable, rewritten as Simplify does it.
func Derive(e api.Expr, name string) (api.Expr, api.Errno) {
	e, err := read(e)
	switch {
	case err != api.OK:
		return api.Expr{}, err
	case !IsName(name):
		return api.Expr{}, api.ErrName
	case !smooth(e):
		return api.Expr{}, api.ErrSmooth
	}
	_, slope := derive(e, name)
	return result(slope)
}

// derive returns e and its derivative, both rewritten. They are rewritten as they are formed, because a derivative that is not yet rewritten may be very large.
func derive(e api.Expr, name string) (same, slope api.Expr) {
	switch len(e.Kids) {
	case 0:
		if e.Op == api.OpVar && e.Name == name {
			return e, whole(1)
		}
		return e, whole(0)
	case 1:
		a, da := derive(e.Kids[0], name)
		return deriveOne(e, a, da)
	}
	a, da := derive(e.Kids[0], name)
	b, db := derive(e.Kids[1], name)
	switch e.Op {
	case api.OpAdd:
		return addOf(a, b), addOf(da, db)
	case api.OpSub:
		return subOf(a, b), subOf(da, db)
	case api.OpMul:
		return mulOf(a, b), addOf(mulOf(da, b), mulOf(a, db))
	}
	return divOf(a, b), divOf(subOf(mulOf(da, b), mulOf(a, db)), powOf(b, 2))
}

// deriveOne is derive for a node with one kid, which is a with the derivative da, both rewritten.
func deriveOne(e, a, da api.Expr) (same, slope api.Expr) {
	switch e.Op {
	case api.OpNeg:
		return negOf(a), negOf(da)
	case api.OpPow:
		return powOf(a, e.Arg), powerSlope(a, da, e.Arg)
	case api.OpRoot:
		root := indexed(api.OpRoot, e.Arg, a)
		return root, divOf(da, mulOf(whole(e.Arg), powOf(root, e.Arg-1)))
	}
	return callOf(e.Arg, a), callSlope(e.Arg, a, da)
}

// powerSlope returns the derivative of a to the power n.
func powerSlope(a, da api.Expr, n int) api.Expr {
	switch n {
	case 0:
		return whole(0)
	case -api.MaxPow: // no node has the exponent n-1
		return mulOf(mulOf(whole(n), divOf(powOf(a, n), a)), da)
	}
	return mulOf(mulOf(whole(n), powOf(a, n-1)), da)
}

// callSlope returns the derivative of the elementary function fn of a.
func callSlope(fn int, a, da api.Expr) api.Expr {
	square := powOf(a, 2)
	switch fn {
	case api.FnExp:
		return mulOf(callOf(api.FnExp, a), da)
	case api.FnLog:
		return divOf(da, a)
	case api.FnSin:
		return mulOf(callOf(api.FnCos, a), da)
	case api.FnCos:
		return negOf(mulOf(callOf(api.FnSin, a), da))
	case api.FnTan:
		return mulOf(addOf(whole(1), powOf(callOf(api.FnTan, a), 2)), da)
	case api.FnAsin:
		return divOf(da, indexed(api.OpRoot, 2, subOf(whole(1), square)))
	case api.FnAcos:
		return negOf(divOf(da, indexed(api.OpRoot, 2, subOf(whole(1), square))))
	}
	return divOf(da, addOf(whole(1), square))
}

// callOf returns the node of the elementary function fn of a. No rule rewrites it.
func callOf(fn int, a api.Expr) api.Expr {
	return indexed(api.OpCall, fn, a)
}
