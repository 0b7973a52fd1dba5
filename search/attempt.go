package search

import (
	"inequality/api"
	"inequality/check"
	"inequality/claim"
	"inequality/enclose"
	"inequality/expr"
	"inequality/halt"
	"inequality/interval"
	"inequality/number"
)

const (
	leadOrder   = 4 // the greatest order of a zero that is tried
	narrowParts = 4 // the number of parts of a side that is narrowed
)

// attempt is an attempt to make a move for a claim. The ways to do this are its methods: they return the move and true, or false if they do not apply.
type attempt struct {
	api.Claim
	prec   int
	points [][]api.Value // the candidates
}

// read returns an argument in memory of its own, with canonical numbers, and ends the operation if it is not valid.
func read(c api.Claim) api.Claim {
	return halt.Must(claim.Goal(c, c.Goal, c.Strict))
}

// newAttempt returns an attempt, without candidates, at a claim that is an argument.
func newAttempt(c api.Claim, p api.Plan) attempt {
	own := read(c)
	halt.Unless(Valid(p), api.ErrBudget)
	return attempt{Claim: own, prec: p.Prec}
}

// move returns the move of the first way that applies. If none does, the task is stuck.
func (a attempt) move() api.Move {
	for _, way := range a.ways() {
		if m, ok := way(); ok {
			return m
		}
	}
	return api.Move{}
}

// ways returns the ways to make a move, in the order in which they are tried.
func (a attempt) ways() []func() (api.Move, bool) {
	return []func() (api.Move, bool){
		a.exclude, a.enclose, a.touch, a.lead, a.refute,
		a.branch, a.turn, a.slide, a.cave, a.narrow, a.cut,
	}
}

// first returns the move with the first of some steps that applies.
func (a attempt) first(steps []api.Step) (api.Move, bool) {
	for _, s := range steps {
		if m, ok := a.apply(s); ok {
			return m, true
		}
	}
	return api.Move{}, false
}

// apply returns the move with a step, which is given without kids.
func (a attempt) apply(s api.Step) (api.Move, bool) {
	whole := s
	whole.Kids = make([]api.Step, kidsOf(s.Rule))
	claims, err := check.Apply(nil, a.Claim, whole)
	if err != api.OK {
		return api.Move{}, false
	}
	m := api.Move{State: api.Open, Step: s, Kids: claims}
	if len(whole.Kids) == 0 {
		m.State = api.Proved
	}
	return m, true
}

// kidsOf returns the number of kids that a rule of a move needs.
func kidsOf(rule int) int {
	switch rule {
	case api.RuleRise, api.RuleFall, api.RuleNarrow, api.RuleTurn:
		return 1
	case api.RuleCut, api.RuleCave, api.RuleBranch:
		return 2
	}
	return 0
}

// exclude shows that a condition holds nowhere.
func (a attempt) exclude() (api.Move, bool) {
	var steps []api.Step
	for k := range a.Conds {
		steps = append(steps, api.Step{Rule: api.RuleEmpty, K: k, Prec: a.prec})
	}
	return a.first(steps)
}

// enclose shows the claim by an enclosure of the goal.
func (a attempt) enclose() (api.Move, bool) {
	var steps []api.Step
	for _, rule := range []int{api.RuleRange, api.RuleMean, api.RuleTaylor, api.RuleLinear} {
		steps = append(steps, api.Step{Rule: rule, Prec: a.prec})
	}
	return a.first(steps)
}

// touch shows the claim by a least value 0 of the goal at a candidate.
func (a attempt) touch() (api.Move, bool) {
	if a.Strict {
		return api.Move{}, false
	}
	var steps []api.Step
	for _, at := range a.points {
		if a.vanishes(at) {
			steps = append(steps, api.Step{Rule: api.RuleZero, Point: at, Prec: a.prec})
		}
	}
	return a.first(steps)
}

// vanishes reports whether the goal is known to be 0 at a point.
func (a attempt) vanishes(at []api.Value) bool {
	v, ok, err := expr.Value(a.Goal, at)
	halt.Unless(err == api.OK, err)
	return ok && compare(v, 0) == 0
}

// lead shows the claim by a zero of the goal at an end of its only side.
func (a attempt) lead() (api.Move, bool) {
	if a.Strict || len(a.Box) != 1 {
		return api.Move{}, false
	}
	side := a.Box[0]
	var ends []api.Rat
	if !side.Iv.LoInf {
		ends = append(ends, side.Iv.Lo)
	}
	if !side.Iv.HiInf {
		ends = append(ends, side.Iv.Hi)
	}
	var steps []api.Step
	for _, end := range ends {
		if !a.vanishes([]api.Value{{Name: side.Name, Num: end}}) {
			continue // there is no zero of any order
		}
		for n := 1; n <= leadOrder; n++ {
			steps = append(steps, api.Step{Rule: api.RuleLead, Name: side.Name, At: end, N: n, Prec: a.prec})
		}
	}
	return a.first(steps)
}

// refute finds a candidate that refutes the claim.
func (a attempt) refute() (api.Move, bool) {
	for _, at := range a.points {
		if refuted, _ := claim.Refutes(a.Claim, at, a.prec); refuted { // false if there is an error
			return api.Move{State: api.Refuted, Point: at}, true
		}
	}
	return api.Move{}, false
}

// branch resolves a case distinction in the goal.
func (a attempt) branch() (api.Move, bool) {
	return a.apply(api.Step{Rule: api.RuleBranch, Prec: a.prec})
}

// turn replaces a side that is the whole line by one that is a little longer than a period.
func (a attempt) turn() (api.Move, bool) {
	var steps []api.Step
	for _, side := range a.Box {
		if side.Iv.LoInf && side.Iv.HiInf {
			steps = append(steps, api.Step{Rule: api.RuleTurn, Name: side.Name})
		}
	}
	return a.first(steps)
}

// slide replaces a side along which the goal rises or falls by one of its ends.
func (a attempt) slide() (api.Move, bool) {
	var steps []api.Step
	for _, side := range a.Box {
		for _, rule := range []int{api.RuleRise, api.RuleFall} {
			steps = append(steps, api.Step{Rule: rule, Name: side.Name, Prec: a.prec})
		}
	}
	return a.first(steps)
}

// cave replaces a side along which the goal is concave by its ends.
func (a attempt) cave() (api.Move, bool) {
	var steps []api.Step
	for _, side := range a.Box {
		steps = append(steps, api.Step{Rule: api.RuleCave, Name: side.Name, Prec: a.prec})
	}
	return a.first(steps)
}

// narrow removes parts of a side on which a condition holds nowhere.
func (a attempt) narrow() (api.Move, bool) {
	var steps []api.Step
	for k := range a.Conds {
		for _, side := range a.Box {
			steps = append(steps, api.Step{Rule: api.RuleNarrow, Name: side.Name, K: k, N: narrowParts, Prec: a.prec})
		}
	}
	return a.first(steps)
}

// cut divides the widest side.
func (a attempt) cut() (api.Move, bool) {
	name, ok, err := enclose.Widest(a.Box)
	if err != api.OK || !ok {
		return api.Move{}, false
	}
	side, _ := enclose.Find(a.Box, name)
	at, err := cutPoint(side)
	if err != api.OK {
		return api.Move{}, false
	}
	return a.apply(api.Step{Rule: api.RuleCut, Name: name, At: at})
}

// cutPoint returns the number at which a side is cut. If only one end is finite, the numbers of repeated cuts grow like the powers of 2.
func cutPoint(side api.Interval) (api.Rat, api.Errno) {
	two := number.FromInt(2)
	switch {
	case side.HiInf && !side.LoInf && compare(side.Lo, 1) >= 0:
		return number.Mul(side.Lo, two)
	case side.LoInf && !side.HiInf && compare(side.Hi, -1) <= 0:
		return number.Mul(side.Hi, two)
	}
	return interval.Middle(side)
}

// compare compares a number of a claim with an integer.
func compare(x api.Rat, n int) int {
	return halt.Must(number.Compare(x, number.FromInt(n)))
}
