package enclose

import (
	"inequality/api"
	"inequality/halt"
	"inequality/interval"
	"inequality/number"
)

// requireSmall ends an operation on a linear form with a large number.
func requireSmall(l api.Linear) {
	halt.Unless(isSmall(l.Const), api.ErrSize)
	for _, x := range l.Slopes {
		halt.Must(number.Sign(x))
	}
}

// span returns the range of a linear form without large numbers.
func (f frame) span(l api.Linear) api.Interval {
	return f.sum(f.round(l.Const), points(l.Slopes))
}

// points returns the intervals of which each contains one of the numbers alone.
func points(list []api.Rat) []api.Interval {
	points := make([]api.Interval, len(list))
	for i, x := range list {
		points[i] = point(x)
	}
	return points
}

// line returns a linear form of e, whose variables are sides.
func (f frame) line(e api.Expr) api.Linear {
	switch e.Op {
	case api.OpNum, api.OpPi, api.OpVar:
		return f.leaf(e)
	case api.OpNeg:
		a := f.line(e.Kids[0])
		return f.opposite(a)
	case api.OpAdd, api.OpSub, api.OpMul:
		a := f.line(e.Kids[0])
		b := f.line(e.Kids[1])
		return f.combined(e.Op, a, b)
	}
	a := f.operate(e, func(i int) api.Interval { return f.span(f.line(e.Kids[i])) })
	return f.form(a, func(int) api.Rat { return api.Rat{} })
}

// form returns the linear form with this Const and, of the side i, slope(i).
func (f frame) form(c api.Interval, slope func(i int) api.Rat) api.Linear {
	l := api.Linear{Const: c}
	for i := range f.spreads {
		l.Slopes = append(l.Slopes, slope(i))
	}
	return l
}

// leaf returns the form of an expression without kids.
func (f frame) leaf(e api.Expr) api.Linear {
	return f.form(f.inMiddle(e).natural(), func(i int) api.Rat {
		if e.Op == api.OpVar && e.Name == f.middle[i].Name {
			return number.FromInt(1)
		}
		return api.Rat{}
	})
}

// opposite returns the form of the functions with opposite signs.
func (f frame) opposite(a api.Linear) api.Linear {
	return f.form(halt.Must(interval.Neg(a.Const)), func(i int) api.Rat { return halt.Must(number.Neg(a.Slopes[i])) })
}

// combined returns the form of the sums, differences or products of two functions.
func (f frame) combined(op int, a, b api.Linear) api.Linear {
	switch op {
	case api.OpAdd:
		return f.form(f.add(a.Const, b.Const), func(i int) api.Rat { return halt.Must(number.Add(a.Slopes[i], b.Slopes[i])) })
	case api.OpSub:
		return f.form(f.sub(a.Const, b.Const), func(i int) api.Rat { return halt.Must(number.Sub(a.Slopes[i], b.Slopes[i])) })
	}
	return f.product(a, b)
}

// product returns the form of the products of two functions. Its slopes are those at the center; what they do not account for goes into Const.
func (f frame) product(a, b api.Linear) api.Linear {
	m := f.down(halt.Must(interval.Middle(a.Const)))
	n := f.down(halt.Must(interval.Middle(b.Const)))
	l := f.form(f.mul(a.Const, b.Const), func(i int) api.Rat {
		first, second := halt.Must(number.Mul(m, b.Slopes[i])), halt.Must(number.Mul(n, a.Slopes[i]))
		return f.down(halt.Must(number.Add(first, second)))
	})
	for i, d := range f.spreads {
		slopes := f.add(f.times(a.Const, b.Slopes[i]), f.times(b.Const, a.Slopes[i]))
		rest := f.sub(slopes, point(l.Slopes[i]))
		l.Const = f.add(l.Const, f.mul(rest, d))
	}
	l.Const = f.add(l.Const, f.mul(f.reach(a), f.reach(b)))
	return l
}

// reach returns the range of a linear form without its Const.
func (f frame) reach(l api.Linear) api.Interval {
	return f.sum(point(api.Rat{}), points(l.Slopes))
}
