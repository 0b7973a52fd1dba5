package elem

import "inequality/fraction"

// atan returns bounds of the arctangent of x.
func (w precision) atan(x fraction.Fraction) span {
	switch {
	case x.Sign() < 0:
		return w.atan(x.Neg()).neg()
	case x.Compare(fraction.FromInt(1)) > 0:
		return w.pi().half().minus(w.arc(w.grid(quotient(fraction.FromInt(1), x))))
	}
	return w.arc(w.grid(x))
}

// asin returns bounds of the arcsine of x, which is from -1 to 1: twice the arc whose tangent is x divided by 1 plus the cosine.
func (w precision) asin(x fraction.Fraction) span {
	switch x.Sign() {
	case 0:
		return point(0)
	case -1:
		return w.asin(x.Neg()).neg()
	}
	square := fraction.FromInt(1).Sub(x.Mul(x))
	return w.arc(w.share(span{x, x}, span{square, square})).times(2)
}

// acos returns bounds of the arccosine of x, which is from -1 to 1.
func (w precision) acos(x fraction.Fraction) span {
	return w.pi().half().minus(w.asin(x))
}

// arc returns bounds of the arctangent of a number from 0 to 1 with the given bounds. It is halved twice, so that the series applies.
func (w precision) arc(tangent span) span {
	quarter := w.halved(w.halved(tangent))
	sum := w.arctangent(bounds{w.around(quarter[0])[0], w.around(quarter[1])[0]})
	return w.span(sum.times(4))
}

// halved returns bounds of the tangent of half an arc, for those of the tangent of the arc.
func (w precision) halved(tangent span) span {
	one := fraction.FromInt(1)
	return w.share(tangent, span{one.Add(tangent[0].Mul(tangent[0])), one.Add(tangent[1].Mul(tangent[1]))})
}

// share returns the bounds y divided by 1 plus the square roots of squares, rounded outwards.
func (w precision) share(y, squares span) span {
	one, p := fraction.FromInt(1), int(w)
	low := quotient(y[0], one.Add(squares[0].RootUp(2, p)))
	high := quotient(y[1], one.Add(squares[1].RootDown(2, p)))
	return span{low.Down(p), high.Up(p)}
}

// grid returns the grid numbers next to x.
func (w precision) grid(x fraction.Fraction) span {
	return span{x.Down(int(w)), x.Up(int(w))}
}
