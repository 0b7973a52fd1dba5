package expr

import (
	"inequality/api"
	"inequality/fraction"
)

// Poly returns the polynomial form of e.
func Poly(e api.Expr) ([]api.Term, api.Errno) {
	e, err := read(e)
	if err != api.OK {
		return nil, err
	}
	f, err := formOf(e)
	if err != api.OK {
		return nil, err
	}
	return f.list()
}

// Congruent reports whether the forms of e and f are the same.
func Congruent(e, f api.Expr) (bool, api.Errno) {
	e, f, err := readBoth(e, f)
	if err != api.OK {
		return false, err
	}
	a, err := formOf(e)
	if err != api.OK {
		return false, err
	}
	b, err := formOf(f)
	if err != api.OK {
		return false, err
	}
	return a.same(b), api.OK
}

// formOf returns the form of e.
func formOf(e api.Expr) (form, api.Errno) {
	switch e.Op {
	case api.OpNum:
		v, err := fraction.Of(e.Num)
		return constant(v), err
	case api.OpNeg, api.OpAdd, api.OpSub, api.OpMul, api.OpDiv, api.OpPow:
		return formOfNode(e)
	}
	return atom(text(e))
}

// formOfNode is formOf for the kinds that are no atoms. The forms of all kids are formed before that of the node, because their errors count first.
func formOfNode(e api.Expr) (form, api.Errno) {
	var kids []form
	for _, kid := range e.Kids {
		f, err := formOf(kid)
		if err != api.OK {
			return nil, err
		}
		kids = append(kids, f)
	}
	a := kids[0]
	switch e.Op {
	case api.OpNeg:
		return a.negated(), api.OK
	case api.OpAdd:
		return a.plus(kids[1]).within()
	case api.OpSub:
		return a.plus(kids[1].negated()).within()
	case api.OpMul:
		return a.times(kids[1]).within()
	case api.OpDiv:
		inverse, err := inverseForm(e.Kids[1], kids[1])
		if err != api.OK {
			return nil, err
		}
		return a.times(inverse).within()
	}
	if e.Arg >= 0 {
		return powerForm(a, e.Arg)
	}
	inverse, err := inverseForm(e.Kids[0], a)
	if err != api.OK {
		return nil, err
	}
	return powerForm(inverse, -e.Arg)
}

// inverseForm returns the form of 1 / b, where f is the form of b.
func inverseForm(b api.Expr, f form) (form, api.Errno) {
	if v, ok := f.number(); ok {
		inverse, err := fraction.FromInt(1).Div(v)
		return constant(inverse), err
	}
	return atom(inverseOf + operand(b, levelSign))
}

// powerForm returns the product of n times the form f.
func powerForm(f form, n int) (form, api.Errno) {
	power := constant(fraction.FromInt(1))
	for range n {
		product, err := power.times(f).within()
		if err != api.OK {
			return nil, err
		}
		power = product
	}
	return power, api.OK
}
