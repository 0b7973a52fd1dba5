package enclose

import (
	"inequality/api"
	"inequality/expr"
	"inequality/halt"
)

// requireSmooth ends an operation on an expression that is not smooth.
func (s subject) requireSmooth() {
	halt.Unless(halt.Must(expr.Smooth(s.e)), api.ErrSmooth)
}

// slopes returns the derivatives of the expression, side by side.
func (s subject) slopes() []api.Expr {
	return derivatives(s.e, s.b)
}

// curves returns the derivatives of each slope for the sides from its own on.
func (s subject) curves(slopes []api.Expr) [][]api.Expr {
	curves := make([][]api.Expr, len(slopes))
	for i, slope := range slopes {
		curves[i] = derivatives(slope, s.b[i:])
	}
	return curves
}

// derivatives returns the derivatives of e, side by side.
func derivatives(e api.Expr, b []api.Side) []api.Expr {
	return each(b, func(_ int, side api.Side) api.Expr {
		return halt.Must(expr.Derive(e, side.Name))
	})
}

// matrix returns the symmetric matrix of the ranges of the curves.
func (s subject) matrix(curves [][]api.Expr) [][]api.Interval {
	m := make([][]api.Interval, len(curves))
	for i, row := range curves {
		for j := range i {
			m[i] = append(m[i], copied(m[j][i]))
		}
		m[i] = append(m[i], s.ranges(row)...)
	}
	return m
}

// mean returns the mean value form of the expression.
func (s subject) mean() api.Interval {
	s.requireSmooth()
	requireBounded(s.b)
	slopes := s.slopes()
	f := newFrame(s.b, s.grid)
	gradient := s.ranges(slopes)
	return f.sum(f.inMiddle(s.e).natural(), gradient)
}

// taylor returns the second-order Taylor form of the expression.
func (s subject) taylor() api.Interval {
	s.requireSmooth()
	requireBounded(s.b)
	slopes := s.slopes()
	curves := s.curves(slopes)
	f := newFrame(s.b, s.grid)
	middle := f.inMiddle(s.e)
	gradient := middle.ranges(slopes)
	hessian := s.matrix(curves)
	total := f.sum(middle.natural(), gradient)
	for i := range f.spreads {
		for j := i; j < len(f.spreads); j++ {
			total = s.add(total, f.second(hessian[i][j], i, j))
		}
	}
	return total
}
