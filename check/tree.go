package check

import (
	"iter"
	"slices"

	"inequality/api"
	"inequality/natural"
)

// visit yields the steps of s with their levels, which are 0 for s itself: each step before its kids, and the kids from left to right.
func visit(s api.Step) iter.Seq2[int, api.Step] {
	return func(yield func(level int, t api.Step) bool) {
		visitFrom(0, s, yield)
	}
}

// visitFrom yields the steps of s, which is at this level. It returns false as soon as yield does.
func visitFrom(level int, s api.Step, yield func(level int, t api.Step) bool) bool {
	if !yield(level, s) {
		return false
	}
	for _, kid := range s.Kids {
		if !visitFrom(level+1, kid, yield) {
			return false
		}
	}
	return true
}

// follow returns the step at a path from s on, or nil if there is none.
func follow(s *api.Step, path []int) *api.Step {
	for _, i := range path {
		if i < 0 || i >= len(s.Kids) {
			return nil
		}
		s = &s.Kids[i]
	}
	return s
}

// sameFields reports whether s and t are the same steps but for their kids.
func sameFields(s, t api.Step) bool {
	texts := s.Name == t.Name && s.Other == t.Other && s.Entry == t.Entry
	integers := s.Rule == t.Rule && s.K == t.K && s.N == t.N && s.Prec == t.Prec && s.Ver == t.Ver
	return texts && integers && sameNumber(s.At, t.At) && sameExpr(s.E, t.E) && slices.EqualFunc(s.Point, t.Point, sameValue) && slices.EqualFunc(s.Args, t.Args, sameBind)
}

// sameValue reports whether v and w are the same values of the same variable.
func sameValue(v, w api.Value) bool {
	return v.Name == w.Name && sameNumber(v.Num, w.Num)
}

// sameBind reports whether b and c put the same expression in the place of the same variable.
func sameBind(b, c api.Bind) bool {
	return b.Name == c.Name && sameExpr(b.E, c.E)
}

// sameExpr reports whether e and f, which need not be valid, have the same fields and kids.
func sameExpr(e, f api.Expr) bool {
	return e.Op == f.Op && e.Arg == f.Arg && e.Name == f.Name && sameNumber(e.Num, f.Num) && slices.EqualFunc(e.Kids, f.Kids, sameExpr)
}

// sameNumber reports whether x and y, of any size, denote the same number.
func sameNumber(x, y api.Rat) bool {
	a, b := natural.Of(x.Num), natural.Of(y.Num)
	if a.IsZero() && b.IsZero() {
		return true
	}
	return x.Neg == y.Neg && a.Mul(denominator(y)).Compare(b.Mul(denominator(x))) == 0
}

// denominator returns the denominator of x as it stands.
func denominator(x api.Rat) natural.Nat {
	if d := natural.Of(x.Den); !d.IsZero() {
		return d
	}
	return natural.FromUint(1)
}
