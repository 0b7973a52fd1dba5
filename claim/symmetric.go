package claim

import (
	"slices"

	"inequality/api"
	"inequality/expr"
	"inequality/halt"
)

// Symmetric reports whether c is seen to be the same with the variables a and b exchanged.
func Symmetric(c api.Claim, a, b string) (bool, api.Errno) {
	return halt.Run(func() bool {
		c := read(c)
		first, second := side(c, a), side(c, b)
		halt.Unless(a != b, api.ErrArg)
		if !sameInterval(first, second) || !congruent(c.Goal, halt.Must(expr.Swap(c.Goal, a, b))) {
			return false
		}
		return !slices.ContainsFunc(c.Conds, func(k api.Cond) bool {
			k.E = halt.Must(expr.Swap(k.E, a, b))
			return !slices.ContainsFunc(c.Conds, func(l api.Cond) bool { return matches(k, l) })
		})
	})
}

// congruent reports whether e and f are seen to be congruent.
func congruent(e, f api.Expr) bool {
	same, err := expr.Congruent(e, f)
	return err == api.OK && same
}

// matches reports whether two conditions are seen to hold at the same points. Congruent expressions need not be defined at the same points, unless they are polynomials.
func matches(k, l api.Cond) bool {
	return sameCond(k, l) || k.Strict == l.Strict && isPolynomial(k.E) && isPolynomial(l.E) && congruent(k.E, l.E)
}

// isPolynomial reports whether e consists of operations that are defined everywhere and of which a polynomial form is formed.
func isPolynomial(e api.Expr) bool {
	switch e.Op {
	case api.OpNum, api.OpVar, api.OpPi, api.OpNeg, api.OpAdd, api.OpSub, api.OpMul:
	case api.OpPow:
		if e.Arg < 0 {
			return false
		}
	default:
		return false
	}
	return !slices.ContainsFunc(e.Kids, func(kid api.Expr) bool { return !isPolynomial(kid) })
}
