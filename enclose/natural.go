package enclose

import (
	"slices"

	"inequality/api"
	"inequality/elem"
	"inequality/expr"
	"inequality/halt"
)

// subject is an expression over a box that is to be enclosed with a precision.
type subject struct {
	e api.Expr
	b []api.Side
	grid
}

// ask carries out an operation on an expression over a box. A division by 0 in it means that the expression is not defined.
func ask[T any](e api.Expr, b []api.Side, p int, op func(s subject) T) (T, api.Errno) {
	result, err := halt.Run(func() T {
		halt.Unless(expr.Valid(e), api.ErrNode)
		halt.Unless(Valid(b), api.ErrBox)
		halt.Unless(isPrecision(p), api.ErrArg)
		for _, name := range halt.Must(expr.Vars(e)) {
			halt.Unless(hasSide(b, name), api.ErrVar)
		}
		return op(subject{e, b, grid(p)})
	})
	if err == api.ErrZero {
		err = api.ErrDomain
	}
	return result, err
}

// natural returns the natural interval extension of the expression.
func (s subject) natural() api.Interval {
	return s.rangeOf(s.e)
}

// ranges returns the natural interval extensions of the expressions of a list, whose variables are sides.
func (s subject) ranges(list []api.Expr) []api.Interval {
	ranges := make([]api.Interval, len(list))
	for i, e := range list {
		ranges[i] = s.rangeOf(e)
	}
	return ranges
}

// rangeOf returns the natural interval extension of e, whose variables are sides.
func (s subject) rangeOf(e api.Expr) api.Interval {
	switch e.Op {
	case api.OpNum:
		return s.round(point(e.Num))
	case api.OpVar:
		i := slices.IndexFunc(s.b, func(side api.Side) bool { return side.Name == e.Name })
		return s.round(s.b[i].Iv)
	case api.OpPi:
		pi := halt.Must(elem.Pi(int(s.grid)))
		return api.Interval{Lo: pi.Lo, Hi: pi.Hi}
	}
	return s.operate(e, func(i int) api.Interval { return s.rangeOf(e.Kids[i]) })
}
