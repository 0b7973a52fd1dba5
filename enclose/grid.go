package enclose

import (
	"inequality/api"
	"inequality/halt"
	"inequality/interval"
	"inequality/number"
)

// grid carries out operations whose results are rounded to the grid of this precision.
type grid int

// isPrecision reports whether there are enclosures with precision p.
func isPrecision(p int) bool {
	return p >= 0 && p <= api.MaxPrec
}

// round returns a with its ends moved outward to the grid.
func (g grid) round(a api.Interval) api.Interval {
	return halt.Must(interval.Round(a, int(g)))
}

// add returns the sums of the numbers of a and b.
func (g grid) add(a, b api.Interval) api.Interval {
	return halt.Must(interval.Add(a, b, int(g)))
}

// sub returns their differences.
func (g grid) sub(a, b api.Interval) api.Interval {
	return halt.Must(interval.Sub(a, b, int(g)))
}

// mul returns their products.
func (g grid) mul(a, b api.Interval) api.Interval {
	return halt.Must(interval.Mul(a, b, int(g)))
}

// div returns their quotients.
func (g grid) div(a, b api.Interval) api.Interval {
	return halt.Must(interval.Div(a, b, int(g)))
}

// pow returns the powers of the numbers of a with the exponent n.
func (g grid) pow(a api.Interval, n int) api.Interval {
	return halt.Must(interval.Pow(a, n, int(g)))
}

// times returns the product of a and the number x.
func (g grid) times(a api.Interval, x api.Rat) api.Interval {
	return g.mul(a, point(x))
}

// down returns x rounded down.
func (g grid) down(x api.Rat) api.Rat {
	return halt.Must(number.Down(x, int(g)))
}

// operate returns what the operation at the root of e makes of its kids. Each kid is formed when it is needed, and none that is not.
func (g grid) operate(e api.Expr, kid func(i int) api.Interval) api.Interval {
	a := kid(0)
	switch e.Op {
	case api.OpNeg:
		return halt.Must(interval.Neg(a))
	case api.OpPow:
		return g.pow(a, e.Arg)
	case api.OpRoot:
		return halt.Must(interval.Root(a, e.Arg, int(g)))
	case api.OpCall:
		return halt.Must(interval.Call(e.Arg, a, int(g)))
	case api.OpAbs:
		return halt.Must(interval.Abs(a))
	case api.OpIf:
		return choose(a, kid)
	}
	b := kid(1)
	switch e.Op {
	case api.OpAdd:
		return g.add(a, b)
	case api.OpSub:
		return g.sub(a, b)
	case api.OpMul:
		return g.mul(a, b)
	case api.OpDiv:
		return g.div(a, b)
	case api.OpMin:
		return halt.Must(interval.Min(a, b))
	}
	return halt.Must(interval.Max(a, b))
}

// choose returns the kids of a case distinction that its condition allows.
func choose(condition api.Interval, kid func(i int) api.Interval) api.Interval {
	switch halt.Must(interval.Sign(condition)) {
	case api.SignZero, api.SignNonNeg, api.SignPos:
		return kid(1)
	case api.SignNeg:
		return kid(2)
	}
	yes := kid(1)
	no := kid(2)
	return halt.Must(interval.Hull(yes, no))
}
