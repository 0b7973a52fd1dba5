package expr

import (
	"inequality/api"
	"inequality/number"
)

// Simplify rewrites e from the leaves to the root.
func Simplify(e api.Expr) (api.Expr, api.Errno) {
	e, err := read(e)
	if err != api.OK {
		return api.Expr{}, err
	}
	return result(simplify(e))
}

// simplify returns e rewritten.
func simplify(e api.Expr) api.Expr {
	kids := each(e.Kids, simplify)
	switch e.Op {
	case api.OpNeg:
		return negOf(kids[0])
	case api.OpAdd:
		return addOf(kids[0], kids[1])
	case api.OpSub:
		return subOf(kids[0], kids[1])
	case api.OpMul:
		return mulOf(kids[0], kids[1])
	case api.OpDiv:
		return divOf(kids[0], kids[1])
	case api.OpPow:
		return powOf(kids[0], e.Arg)
	}
	e.Kids = kids
	return e
}

// The functions below return the node of a kind with kids that are rewritten, replaced by the first rule of its kind that applies.

func negOf(a api.Expr) api.Expr {
	if x, ok := literalValue(a); ok {
		v, _ := number.Neg(x)
		return literal(v)
	}
	if a.Op == api.OpNeg {
		return a.Kids[0]
	}
	return node(api.OpNeg, a)
}

func addOf(a, b api.Expr) api.Expr {
	sum, ok := fold(number.Add, a, b)
	switch {
	case ok:
		return sum
	case isLiteral(a, 0):
		return b
	case isLiteral(b, 0):
		return a
	case b.Op == api.OpNeg:
		return node(api.OpSub, a, b.Kids[0])
	}
	return node(api.OpAdd, a, b)
}

func subOf(a, b api.Expr) api.Expr {
	difference, ok := fold(number.Sub, a, b)
	switch {
	case ok:
		return difference
	case isLiteral(b, 0):
		return a
	case isLiteral(a, 0):
		return negOf(b)
	case b.Op == api.OpNeg:
		return node(api.OpAdd, a, b.Kids[0])
	}
	return node(api.OpSub, a, b)
}

func mulOf(a, b api.Expr) api.Expr {
	product, ok := fold(number.Mul, a, b)
	switch {
	case ok:
		return product
	case isLiteral(a, 0) || isLiteral(b, 0):
		return whole(0)
	case isLiteral(a, 1):
		return b
	case isLiteral(b, 1):
		return a
	case isLiteral(a, -1):
		return negOf(b)
	}
	return node(api.OpMul, a, b)
}

func divOf(a, b api.Expr) api.Expr {
	quotient, ok := fold(number.Div, a, b)
	switch {
	case ok:
		return quotient
	case isLiteral(a, 0):
		return whole(0)
	case isLiteral(b, 1):
		return a
	}
	return node(api.OpDiv, a, b)
}

func powOf(a api.Expr, n int) api.Expr {
	if x, ok := literalValue(a); ok {
		if v, err := number.Pow(x, n); err == api.OK {
			return literal(v)
		}
	}
	switch n {
	case 0:
		return whole(1)
	case 1:
		return a
	}
	return indexed(api.OpPow, n, a)
}

// fold returns the literal of the result of an operation on two literals and true, or false if they are none, or the operation has an error.
func fold(operation func(x, y api.Rat) (api.Rat, api.Errno), a, b api.Expr) (api.Expr, bool) {
	x, ok := literalValue(a)
	if !ok {
		return api.Expr{}, false
	}
	y, ok := literalValue(b)
	if !ok {
		return api.Expr{}, false
	}
	v, err := operation(x, y)
	return literal(v), err == api.OK
}

// isLiteral reports whether e is a literal of n.
func isLiteral(e api.Expr, n int) bool {
	x, ok := literalValue(e)
	if !ok {
		return false
	}
	order, _ := number.Compare(x, number.FromInt(n))
	return order == 0
}
