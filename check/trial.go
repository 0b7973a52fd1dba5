package check

import (
	"slices"

	"inequality/api"
	"inequality/claim"
	"inequality/enclose"
	"inequality/expr"
	"inequality/halt"
	"inequality/interval"
	"inequality/number"
)

// trial is the attempt to prove a claim, which is valid, by a step, which is well formed. The rules are its methods: they return the claims of the kids, and end the operation if they do not apply.
type trial struct {
	api.Claim
	api.Step
	lemma api.Claim // of the entry that the step names, if its rule names one
}

// require ends the operation if the rule does not apply.
func require(ok bool) {
	halt.Unless(ok, api.ErrProof)
}

// one returns the claim of the only kid.
func one(c api.Claim, err api.Errno) []api.Claim {
	return []api.Claim{halt.Must(c, err)}
}

// two returns the claims of two kids.
func two(c, d api.Claim, err api.Errno) []api.Claim {
	halt.Unless(err == api.OK, err)
	return []api.Claim{c, d}
}

// rangeOf returns the natural interval extension of e over the box.
func (t trial) rangeOf(e api.Expr) api.Interval {
	return halt.Must(enclose.Range(e, t.Box, t.Prec))
}

// signOf returns the sign of e on the box.
func (t trial) signOf(e api.Expr) int {
	return signOf(t.rangeOf(e))
}

// requireDefined ends the operation if the goal is not seen to be defined on the box.
func (t trial) requireDefined() {
	t.rangeOf(t.Goal)
}

// requireFree ends the operation if a condition contains the variable of the side that the step names.
func (t trial) requireFree() {
	require(halt.Must(claim.Free(t.Claim, t.Name)))
}

// side returns the interval of the side that the step names.
func (t trial) side() api.Interval {
	a, ok := enclose.Find(t.Box, t.Name)
	require(ok)
	return a
}

// cond returns the condition that the step names.
func (t trial) cond() api.Cond {
	require(t.K >= 0 && t.K < len(t.Conds))
	return t.Conds[t.K]
}

// slope returns the derivative of e along the side that the step names.
func (t trial) slope(e api.Expr) api.Expr {
	return halt.Must(expr.Derive(e, t.Name))
}

// shown ends the operation if an interval that contains the values of the goal does not show the claim. There are no kids.
func (t trial) shown(values api.Interval) []api.Claim {
	sign := signOf(values)
	require(sign == api.SignPos || !t.Strict && isNeverNegative(sign))
	return nil
}

// face returns the claim on the lower or the upper end of the side that the step names.
func (t trial) face(upper bool) api.Claim {
	return halt.Must(claim.Face(t.Claim, t.Name, upper))
}

// withGoal returns the claim with another goal.
func (t trial) withGoal(e api.Expr, strict bool) api.Claim {
	return halt.Must(claim.Goal(t.Claim, e, strict))
}

func (t trial) natural() []api.Claim {
	return t.shown(t.rangeOf(t.Goal))
}

func (t trial) mean() []api.Claim {
	t.requireDefined()
	return t.shown(halt.Must(enclose.Mean(t.Goal, t.Box, t.Prec)))
}

func (t trial) taylor() []api.Claim {
	t.requireDefined()
	return t.shown(halt.Must(enclose.Taylor(t.Goal, t.Box, t.Prec)))
}

func (t trial) linear() []api.Claim {
	t.requireDefined()
	line := halt.Must(enclose.Line(t.Goal, t.Box, t.Prec))
	return t.shown(halt.Must(enclose.Spread(line, t.Box, t.Prec)))
}

func (t trial) empty() []api.Claim {
	k := t.cond()
	sign := t.signOf(k.E)
	require(sign == api.SignNeg || k.Strict && isNeverPositive(sign))
	return nil
}

func (t trial) cut() []api.Claim {
	return two(claim.Cut(t.Claim, t.Name, t.At))
}

func (t trial) rise() []api.Claim {
	t.requireFree()
	t.requireDefined()
	require(isNeverNegative(t.signOf(t.slope(t.Goal))))
	return []api.Claim{t.face(false)}
}

func (t trial) fall() []api.Claim {
	t.requireFree()
	t.requireDefined()
	require(isNeverPositive(t.signOf(t.slope(t.Goal))))
	return []api.Claim{t.face(true)}
}

func (t trial) cave() []api.Claim {
	t.requireFree()
	t.requireDefined()
	require(isNeverPositive(t.signOf(t.slope(t.slope(t.Goal)))))
	return []api.Claim{t.face(false), t.face(true)}
}

func (t trial) narrow() []api.Claim {
	c, smaller, err := claim.Narrow(t.Claim, t.K, t.Name, t.N, t.Prec)
	require(smaller)
	return one(c, err)
}

func (t trial) branch() []api.Claim {
	cond, _, _, err := expr.Branch(t.Goal)
	t.rangeOf(halt.Must(cond, err)) // the condition has to be defined on the whole box
	return two(claim.Branch(t.Claim))
}

func (t trial) turn() []api.Claim {
	return one(claim.Turn(t.Claim, t.Name, t.At))
}

func (t trial) swap() []api.Claim {
	require(t.Name < t.Other)
	require(halt.Must(claim.Symmetric(t.Claim, t.Name, t.Other)))
	t.requireDefined()
	difference := node(api.OpSub, variable(t.Other), variable(t.Name))
	return one(claim.Assume(t.Claim, difference, false))
}

// zero shows that the goal, which is convex, has its least value 0 at the point.
func (t trial) zero() []api.Claim {
	require(!t.Strict && halt.Must(expr.Smooth(t.Goal)))
	t.requireDefined()
	here := halt.Must(enclose.At(t.Box, t.Point)) // an error if the point is not in the box
	require(vanishes(t.Goal, t.Point))
	for i, side := range t.Box {
		slope := halt.Must(expr.Derive(t.Goal, side.Name))
		if vanishes(slope, t.Point) {
			continue
		}
		sign := signOf(halt.Must(enclose.Range(slope, here, t.Prec)))
		low, high := ends(side.Iv, t.Point[i].Num)
		require(low && isNeverNegative(sign) || high && isNeverPositive(sign))
	}
	hessian := halt.Must(enclose.Hessian(t.Goal, t.Box, t.Prec))
	require(halt.Must(enclose.Definite(hessian, t.Prec)))
	return nil
}

// lead shows that the first term of the expansion at a point, which is of order N, has the right sign on both sides of the point.
func (t trial) lead() []api.Claim {
	require(!t.Strict && halt.Must(expr.Smooth(t.Goal)))
	require(len(t.Box) == 1 && t.N >= 1 && t.N <= api.MaxOrder)
	side := t.side()
	require(halt.Must(interval.Has(side, t.At)))
	t.requireDefined()
	slope := t.Goal
	for range t.N {
		require(vanishes(slope, []api.Value{{Name: t.Name, Num: t.At}}))
		slope = t.slope(slope)
	}
	even := t.N%2 == 0
	sign := t.signOf(slope)
	low, high := ends(side, t.At)
	require((even || low) && isNeverNegative(sign) || !even && high && isNeverPositive(sign))
	return nil
}

func (t trial) same() []api.Claim {
	require(halt.Must(expr.Congruent(t.Goal, t.E)))
	t.requireDefined()
	return []api.Claim{t.withGoal(t.E, t.Strict)}
}

func (t trial) via() []api.Claim {
	difference := node(api.OpSub, t.Goal, t.E)
	return []api.Claim{t.withGoal(difference, false), t.withGoal(t.E, t.Strict)}
}

func (t trial) scale() []api.Claim {
	product := node(api.OpMul, t.Goal, t.E)
	return []api.Claim{t.withGoal(t.E, true), t.withGoal(product, t.Strict)}
}

func (t trial) add() []api.Claim {
	require(halt.Must(number.Sign(t.At)) >= 0)
	share := node(api.OpMul, halt.Must(expr.Literal(t.At)), t.cond().E)
	return []api.Claim{t.withGoal(node(api.OpSub, t.Goal, share), t.Strict)}
}

// instance shows that the lemma applies to the binds.
func (t trial) instance() []api.Claim {
	require(t.Prec >= 0 && t.Prec <= api.MaxPrec) // nothing else asks for it if there are no binds
	require(slices.EqualFunc(t.Args, t.lemma.Box, func(b api.Bind, s api.Side) bool {
		return b.Name == s.Name && halt.Must(interval.Inside(t.rangeOf(b.E), s.Iv))
	}))
	for _, k := range t.lemma.Conds {
		e := halt.Must(expr.Subst(k.E, t.Args))
		require(slices.ContainsFunc(t.Conds, func(l api.Cond) bool {
			return (l.Strict || !k.Strict) && halt.Must(expr.Equal(e, l.E))
		}))
	}
	return one(claim.Assume(t.Claim, halt.Must(expr.Subst(t.lemma.Goal, t.Args)), t.lemma.Strict))
}

// far shows that the goal, times a power of the variable, is E of the inverse of the variable.
func (t trial) far() []api.Claim {
	a := t.side()
	require(!a.LoInf && a.HiInf && halt.Must(number.Sign(a.Lo)) > 0)
	t.requireFree()
	t.requireDefined()
	require(t.N >= 0 && t.N <= api.MaxPow)
	x, unit := variable(t.Name), number.FromInt(1)
	inverse := node(api.OpDiv, halt.Must(expr.Literal(unit)), x)
	e := halt.Must(expr.Subst(t.E, []api.Bind{{Name: t.Name, E: inverse}}))
	power := api.Expr{Op: api.OpPow, Arg: t.N, Kids: []api.Expr{x}}
	require(halt.Must(expr.Congruent(t.Goal, node(api.OpMul, e, power))))
	near := halt.Must(interval.Between(api.Rat{}, halt.Must(number.Div(unit, a.Lo))))
	t.Box = halt.Must(enclose.Put(t.Box, t.Name, near))
	return []api.Claim{t.withGoal(t.E, t.Strict)}
}

// node returns the node of a kind without Arg with these kids.
func node(op int, kids ...api.Expr) api.Expr {
	return api.Expr{Op: op, Kids: kids}
}

// variable returns the node of the variable with this name.
func variable(name string) api.Expr {
	return api.Expr{Op: api.OpVar, Name: name}
}

// signOf returns the sign of an interval.
func signOf(a api.Interval) int {
	return halt.Must(interval.Sign(a))
}

// isNeverNegative reports whether numbers of this sign are at least 0.
func isNeverNegative(sign int) bool {
	return sign == api.SignZero || sign == api.SignNonNeg || sign == api.SignPos
}

// isNeverPositive reports whether numbers of this sign are at most 0.
func isNeverPositive(sign int) bool {
	return sign == api.SignZero || sign == api.SignNonPos || sign == api.SignNeg
}

// vanishes reports whether e is known to be 0 at a point.
func vanishes(e api.Expr, at []api.Value) bool {
	v, ok, err := expr.Value(e, at)
	halt.Unless(err == api.OK, err)
	return ok && isZero(v)
}

// ends reports whether x is the finite lower end of an interval, and whether it is the finite upper end.
func ends(a api.Interval, x api.Rat) (low, high bool) {
	low = !a.LoInf && halt.Must(number.Compare(a.Lo, x)) == 0
	high = !a.HiInf && halt.Must(number.Compare(a.Hi, x)) == 0
	return low, high
}
