package claim

import (
	"slices"

	"inequality/api"
	"inequality/enclose"
	"inequality/expr"
	"inequality/halt"
	"inequality/interval"
)

// read returns an argument in memory of its own, with canonical numbers, and ends the operation if it is not valid.
func read(c api.Claim) api.Claim {
	halt.Unless(Valid(c), api.ErrClaim)
	return copied(c)
}

// readExpr does for an expression over a box what read does for a claim.
func readExpr(e api.Expr, b []api.Side) api.Expr {
	halt.Unless(expr.Valid(e), api.ErrNode)
	halt.Unless(isAbout(e, b), api.ErrVar)
	return copiedExpr(e)
}

// copied returns a valid claim in new memory, with canonical numbers.
func copied(c api.Claim) api.Claim {
	d := api.Claim{Goal: copiedExpr(c.Goal), Strict: c.Strict}
	for _, s := range c.Box {
		d.Box = append(d.Box, api.Side{Name: s.Name, Iv: halt.Must(interval.Canon(s.Iv))})
	}
	for _, k := range c.Conds {
		d.Conds = append(d.Conds, api.Cond{E: copiedExpr(k.E), Strict: k.Strict})
	}
	return d
}

// copiedExpr returns a valid expression in new memory, with canonical numbers, as every result of package expr is.
func copiedExpr(e api.Expr) api.Expr {
	return halt.Must(expr.Subst(e, nil))
}

// vars returns the names of the variables of a valid expression.
func vars(e api.Expr) []string {
	return halt.Must(expr.Vars(e))
}

// isAbout reports whether all variables of a valid expression are names of sides of a box.
func isAbout(e api.Expr, b []api.Side) bool {
	return !slices.ContainsFunc(vars(e), func(name string) bool { return !hasSide(b, name) })
}

// hasSide reports whether a box has a side with this name.
func hasSide(b []api.Side, name string) bool {
	_, ok := enclose.Find(b, name)
	return ok
}

// side returns the interval of a side, and ends the operation if there is no such side.
func side(c api.Claim, name string) api.Interval {
	a, ok := enclose.Find(c.Box, name)
	halt.Unless(ok, api.ErrVar)
	return a
}

// goal returns the inequality that c states.
func goal(c api.Claim) api.Cond {
	return api.Cond{E: c.Goal, Strict: c.Strict}
}

// inequalities returns the goal of c and its conditions.
func inequalities(c api.Claim) []api.Cond {
	return append([]api.Cond{goal(c)}, c.Conds...)
}

// sameCond reports whether two inequalities between valid expressions and 0 are equal.
func sameCond(k, l api.Cond) bool {
	return k.Strict == l.Strict && halt.Must(expr.Equal(k.E, l.E))
}

// sameSide reports whether two sides have the same name and equal intervals.
func sameSide(s, t api.Side) bool {
	return s.Name == t.Name && sameInterval(s.Iv, t.Iv)
}

// sameInterval reports whether a and b are equal.
func sameInterval(a, b api.Interval) bool {
	return halt.Must(interval.Inside(a, b)) && halt.Must(interval.Inside(b, a))
}

// withGoal returns c with another goal.
func withGoal(c api.Claim, e api.Expr, strict bool) api.Claim {
	c.Goal, c.Strict = e, strict
	return c
}

// withCond returns c with one more condition, and ends the operation if it has as many as there may be.
func withCond(c api.Claim, e api.Expr, strict bool) api.Claim {
	halt.Unless(len(c.Conds) < api.MaxConds, api.ErrLimit)
	c.Conds = append(c.Conds, api.Cond{E: e, Strict: strict})
	return c
}

// withSide returns c with another interval, which is not empty, as one of its sides.
func withSide(c api.Claim, name string, a api.Interval) api.Claim {
	c.Box = halt.Must(enclose.Put(c.Box, name, a))
	return c
}
