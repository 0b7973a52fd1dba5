package expr

import (
	"inequality/api"
	"inequality/elem"
	"inequality/number"
)

// Value returns a rational value of e at the given values of variables and true, or false if no rule gives one.
func Value(e api.Expr, at []api.Value) (api.Rat, bool, api.Errno) {
	e, err := read(e)
	if err != api.OK {
		return api.Rat{}, false, err
	}
	point, err := readValues(at)
	if err != api.OK {
		return api.Rat{}, false, err
	}
	v, ok := point.value(e)
	if !ok {
		return api.Rat{}, false, api.OK
	}
	v, err = number.Canon(v)
	return v, true, err
}

// values are the values of variables.
type values map[string]api.Rat

// readValues returns the values of a list.
func readValues(list []api.Value) (values, api.Errno) {
	var names []string
	for _, v := range list {
		names = append(names, v.Name)
	}
	if !areNames(names) {
		return nil, api.ErrName
	}
	point := values{}
	for _, v := range list {
		x, err := number.Canon(v.Num)
		if err != api.OK {
			return nil, err
		}
		point[v.Name] = x
	}
	return point, api.OK
}

// value returns the value of e and true, or false if it has none.
func (point values) value(e api.Expr) (api.Rat, bool) {
	switch e.Op {
	case api.OpNum:
		return e.Num, true
	case api.OpVar:
		v, ok := point[e.Name]
		return v, ok
	case api.OpPi:
		return api.Rat{}, false
	case api.OpIf:
		return point.choice(e)
	}
	var kids []api.Rat
	for _, kid := range e.Kids {
		v, ok := point.value(kid)
		if !ok {
			return api.Rat{}, false
		}
		kids = append(kids, v)
	}
	if len(kids) == 1 {
		return ofOne(e, kids[0])
	}
	return ofTwo(e.Op, kids[0], kids[1])
}

// choice returns the value of a case distinction. The case that is not taken is not looked at.
func (point values) choice(e api.Expr) (api.Rat, bool) {
	v, ok := point.value(e.Kids[0])
	switch {
	case !ok:
		return api.Rat{}, false
	case v.Neg:
		return point.value(e.Kids[2])
	}
	return point.value(e.Kids[1])
}

// ofOne returns the value of the operation at the root of e for one operand, if there is one.
func ofOne(e api.Expr, x api.Rat) (api.Rat, bool) {
	switch e.Op {
	case api.OpNeg:
		return ifDefined(number.Neg(x))
	case api.OpPow:
		return ifDefined(number.Pow(x, e.Arg))
	case api.OpAbs:
		return ifDefined(number.Abs(x))
	case api.OpRoot:
		v, ok, _ := number.Root(x, e.Arg)
		return v, ok
	}
	v, ok, _ := elem.Exact(e.Arg, x)
	return v, ok
}

// ofTwo returns the value of an operation for two operands, if there is one.
func ofTwo(op int, x, y api.Rat) (api.Rat, bool) {
	order, _ := number.Compare(x, y)
	switch op {
	case api.OpAdd:
		return ifDefined(number.Add(x, y))
	case api.OpSub:
		return ifDefined(number.Sub(x, y))
	case api.OpMul:
		return ifDefined(number.Mul(x, y))
	case api.OpDiv:
		return ifDefined(number.Div(x, y))
	}
	if (op == api.OpMin) == (order < 0) {
		return x, true
	}
	return y, true
}

// ifDefined turns the error of an operation into false.
func ifDefined(x api.Rat, err api.Errno) (api.Rat, bool) {
	return x, err == api.OK
}
