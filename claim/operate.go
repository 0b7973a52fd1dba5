package claim

import (
	"slices"

	"inequality/api"
	"inequality/enclose"
	"inequality/expr"
	"inequality/halt"
	"inequality/interval"
	"inequality/number"
)

// period is an integer that is greater than the period of sine and cosine.
const period = 7

// Cut returns c with a side that ends at a number, and c with the side that begins there.
func Cut(c api.Claim, name string, at api.Rat) (low, high api.Claim, err api.Errno) {
	both, err := halt.Run(func() [2]api.Claim {
		c := read(c)
		a := side(c, name)
		at := halt.Must(number.Canon(at))
		halt.Unless(a.LoInf || halt.Must(number.Compare(a.Lo, at)) < 0, api.ErrSide)
		halt.Unless(a.HiInf || halt.Must(number.Compare(at, a.Hi)) < 0, api.ErrSide)
		below := api.Interval{Lo: a.Lo, LoInf: a.LoInf, Hi: at}
		above := api.Interval{Lo: at, Hi: a.Hi, HiInf: a.HiInf}
		return [2]api.Claim{withSide(c, name, below), withSide(copied(c), name, above)}
	})
	return both[0], both[1], err
}

// Face returns c on the lower or the upper end of a side, which is dropped.
func Face(c api.Claim, name string, upper bool) (api.Claim, api.Errno) {
	return halt.Run(func() api.Claim {
		c := read(c)
		a := side(c, name)
		end, infinite := a.Lo, a.LoInf
		if upper {
			end, infinite = a.Hi, a.HiInf
		}
		halt.Unless(!infinite, api.ErrForm)
		binds := []api.Bind{{Name: name, E: halt.Must(expr.Literal(end))}}
		c.Goal = halt.Must(expr.Subst(c.Goal, binds))
		for i, k := range c.Conds {
			c.Conds[i].E = halt.Must(expr.Subst(k.E, binds))
		}
		c.Box = halt.Must(enclose.Drop(c.Box, name))
		return c
	})
}

// Narrow divides a side into n parts and removes parts at its ends on which condition k fails. It returns c with what is left of the side, and whether that is smaller.
func Narrow(c api.Claim, k int, name string, n, p int) (api.Claim, bool, api.Errno) {
	smaller := false
	narrowed, err := halt.Run(func() api.Claim {
		c := read(c)
		a := side(c, name)
		halt.Unless(k >= 0 && k < len(c.Conds) && n >= 2 && n <= api.MaxParts, api.ErrArg)
		requirePrecision(p)
		halt.Unless(halt.Must(interval.Bounded(a)), api.ErrEdge)
		left := trim(divide(a, n), func(low, high api.Rat) bool {
			box := withSide(c, name, api.Interval{Lo: low, Hi: high}).Box
			return part{box, p}.excludes(c.Conds[k])
		})
		smaller = !sameInterval(left, a)
		return withSide(c, name, left)
	})
	return narrowed, smaller, err
}

// divide returns the ends of n parts of equal length of a bounded interval, from the lower end to the upper one.
func divide(a api.Interval, n int) []api.Rat {
	length := halt.Must(number.Sub(a.Hi, a.Lo))
	ends := []api.Rat{a.Lo}
	for i := 1; i < n; i++ {
		share := halt.Must(number.Div(number.FromInt(i), number.FromInt(n)))
		offset := halt.Must(number.Mul(length, share))
		ends = append(ends, halt.Must(number.Add(a.Lo, offset)))
	}
	return append(ends, a.Hi)
}

// trim removes parts that fail, as long as another one is left, first from below and then from above, and returns what is left. The ends are those of all parts in ascending order.
func trim(ends []api.Rat, fails func(low, high api.Rat) bool) api.Interval {
	for len(ends) > 2 && fails(ends[0], ends[1]) {
		ends = ends[1:]
	}
	for len(ends) > 2 && fails(ends[len(ends)-2], ends[len(ends)-1]) {
		ends = ends[:len(ends)-1]
	}
	return api.Interval{Lo: ends[0], Hi: ends[len(ends)-1]}
}

// Branch resolves the first absolute value, minimum, maximum or case distinction in the goal of c. It returns the claims for its two cases.
func Branch(c api.Claim) (yes, no api.Claim, err api.Errno) {
	both, err := halt.Run(func() [2]api.Claim {
		yes := read(c)
		no := copied(yes)
		cond, yesGoal, noGoal, err := expr.Branch(yes.Goal)
		halt.Unless(err == api.OK, err)
		opposite := api.Expr{Op: api.OpNeg, Kids: []api.Expr{cond}}
		halt.Unless(expr.Valid(opposite), api.ErrLimit)
		yes = withCond(withGoal(yes, yesGoal, yes.Strict), cond, false)
		no = withCond(withGoal(no, noGoal, no.Strict), copiedExpr(opposite), true)
		return [2]api.Claim{yes, no}
	})
	return both[0], both[1], err
}

// Turn returns c with a bounded interval, on which the variable takes all turns, in the place of an unbounded side in which c is periodic.
func Turn(c api.Claim, name string, at api.Rat) (api.Claim, api.Errno) {
	return halt.Run(func() api.Claim {
		c := read(c)
		a := side(c, name)
		at := halt.Must(number.Canon(at))
		halt.Unless(a.LoInf && a.HiInf && isPeriodic(c, name), api.ErrForm)
		end := halt.Must(number.Add(at, number.FromInt(period)))
		return withSide(c, name, api.Interval{Lo: at, Hi: end})
	})
}

// isPeriodic reports whether the goal and all conditions of c are seen to have the period 2 * pi in a variable.
func isPeriodic(c api.Claim, name string) bool {
	return !slices.ContainsFunc(inequalities(c), func(k api.Cond) bool { return !halt.Must(expr.Periodic(k.E, name)) })
}
