package expr

import "inequality/api"

// Periodic reports whether e is seen to have the period 2 * pi in a variable.
func Periodic(e api.Expr, name string) (bool, api.Errno) {
	e, err := read(e)
	switch {
	case err != api.OK:
		return false, err
	case !IsName(name):
		return false, api.ErrName
	}
	return periodic(e, name), api.OK
}

// periodic is Periodic of an expression with canonical numbers.
func periodic(e api.Expr, name string) bool {
	switch {
	case e.Op == api.OpVar:
		return e.Name != name
	case isTurning(e) && linear(e.Kids[0], name):
		return true
	}
	for _, kid := range e.Kids {
		if !periodic(kid, name) {
			return false
		}
	}
	return true
}

// isTurning reports whether a node is the sine, the cosine or the tangent of its kid.
func isTurning(n api.Expr) bool {
	return n.Op == api.OpCall && (n.Arg == api.FnSin || n.Arg == api.FnCos || n.Arg == api.FnTan)
}

// linear reports whether e is seen to be linear in a variable, with an integer as its slope.
func linear(e api.Expr, name string) bool {
	switch e.Op {
	case api.OpVar:
		return e.Name == name
	case api.OpNeg:
		return linear(e.Kids[0], name)
	case api.OpAdd, api.OpSub:
		a, b := linear(e.Kids[0], name), linear(e.Kids[1], name)
		return (a || b) && (a || !contains(e.Kids[0], name)) && (b || !contains(e.Kids[1], name))
	case api.OpMul:
		return isInteger(e.Kids[0]) && linear(e.Kids[1], name) || linear(e.Kids[0], name) && isInteger(e.Kids[1])
	}
	return false
}

// isInteger reports whether e is a literal of an integer.
func isInteger(e api.Expr) bool {
	v, ok := literalValue(e)
	return ok && len(v.Den) == 0
}
