package check_test

import (
	"math/rand"
	"slices"
	"strconv"

	"inequality/api"
	"inequality/check"
	"inequality/claim"
	"inequality/expr"
	"inequality/number"
)

// A source makes random claims in the variables x, y and z, steps for them, and proofs.
type source struct {
	*rand.Rand
	whole bool // expressions of all kinds; otherwise they are smooth and defined everywhere
}

// sources calls visit with both kinds of sources, n times each.
func sources(seed int64, n int, visit func(s source)) {
	for i, whole := range []bool{false, true} {
		s := source{rand.New(rand.NewSource(seed + int64(i))), whole}
		for range n {
			visit(s)
		}
	}
}

// valid reports whether a claim is valid.
func valid(c api.Claim) bool {
	return claim.Valid(c)
}

// pick returns one of the texts.
func (s source) pick(texts ...string) string {
	return texts[s.Intn(len(texts))]
}

// expr returns the text of an expression of at most this depth in the variables among the names.
func (s source) expr(depth int, names []string) string {
	if depth <= 1 || s.Intn(8) == 0 {
		if len(names) > 0 && s.Intn(3) > 0 {
			return s.pick(names...)
		}
		return s.pick("0", "1", "2", "3", "1/2", "7/3", "pi")
	}
	a, b := "("+s.expr(depth-1, names)+")", "("+s.expr(depth-1, names)+")"
	forms := []string{a + " + " + b, a + " - " + b, a + " * " + b, "-" + a, a + "^2", a + "^" + strconv.Itoa(s.Intn(4)), "sin" + a}
	if s.whole {
		forms = append(forms, a+" / "+b, "exp"+a, "log"+a, "sqrt"+a, "root(3, "+a+")", "abs"+a, "min("+a+", "+b+")", "max("+a+", "+b+")", "if("+a+", "+b+", "+s.expr(depth-1, names)+")", a+"^-"+strconv.Itoa(s.Intn(3)), "atan"+a)
	}
	return s.pick(forms...)
}

// number returns a small number.
func (s source) number() api.Rat {
	x, _ := number.Div(number.FromInt(s.Intn(17)-8), number.FromInt([]int{1, 1, 1, 2, 4, 3}[s.Intn(6)]))
	return x
}

// interval returns an interval with small numbers, perhaps an unbounded one.
func (s source) interval() api.Interval {
	x, y := s.number(), s.number()
	if less, _ := number.Compare(y, x); less < 0 {
		x, y = y, x
	}
	switch s.Intn(8) {
	case 0:
		return api.Interval{Lo: x, HiInf: true}
	case 1:
		return api.Interval{Hi: x, LoInf: true}
	case 2:
		return api.Interval{LoInf: true, HiInf: true}
	case 3:
		return api.Interval{Lo: x, Hi: x}
	}
	return api.Interval{Lo: x, Hi: y}
}

// claim returns a valid claim.
func (s source) claim() api.Claim {
	names := []string{"x", "y", "z"}[:s.Intn(4)]
	c := api.Claim{Goal: ex(s.expr(4, names)), Strict: s.Intn(2) == 0}
	for _, name := range names {
		c.Box = append(c.Box, api.Side{Name: name, Iv: s.interval()})
	}
	if len(names) > 1 && s.Intn(6) == 0 { // a symmetric one
		c.Box[1].Iv = c.Box[0].Iv
		c.Goal = ex(s.pick("x + y + 2", "x^2 * y^2", "(x - y)^2 + x^2 + y^2", "exp(x) + exp(y)", "sin(x + y) + sin(y + x) + 3"))
		return c
	}
	if len(names) == 1 && s.Intn(2) == 0 { // one with a zero at 0, often at an end
		c.Goal, c.Strict = ex(s.pick("x^2 * ("+s.expr(2, names)+")", "x - sin(x)", "sin(x) - x", "exp(x) - (1 + x)", "x^3 + x^2", "-x^3", "x * (1 - x)", "x^2 - x", "x^2 + x", "1 - cos(x)")), s.Intn(8) == 0
		c.Box[0].Iv = api.Interval{Lo: rat(s.pick("0", "-1", "-1/4", "-3")), Hi: rat(s.pick("0", "1/4", "1", "2"))}
	}
	for range s.Intn(3) {
		c.Conds = append(c.Conds, api.Cond{E: ex(s.expr(3, names)), Strict: s.Intn(2) == 0})
	}
	return c
}

// name returns the name of a side, or another one.
func (s source) name(c api.Claim) string {
	if len(c.Box) == 0 || s.Intn(20) == 0 {
		return s.pick("x", "y", "w")
	}
	return c.Box[s.Intn(len(c.Box))].Name
}

// point returns a point with a value for each side of a box, which is often in it and often on an end.
func (s source) point(b []api.Side) []api.Value {
	var at []api.Value
	for _, side := range b {
		x := s.number()
		switch {
		case !side.Iv.LoInf && s.Intn(3) == 0:
			x = side.Iv.Lo
		case !side.Iv.HiInf && s.Intn(3) == 0:
			x = side.Iv.Hi
		case !side.Iv.LoInf && !side.Iv.HiInf:
			part, _ := number.Sub(side.Iv.Hi, side.Iv.Lo)
			part, _ = number.Mul(part, rat(s.pick("1/2", "1/3", "1/8", "7/8")))
			x, _ = number.Add(side.Iv.Lo, part)
		}
		at = append(at, api.Value{Name: side.Name, Num: x})
	}
	return at
}

// other returns an expression that may be of use for a claim: its goal in another form, a bound, or any.
func (s source) other(c api.Claim) api.Expr {
	var names []string
	for _, side := range c.Box {
		names = append(names, side.Name)
	}
	goal, _ := expr.Print(c.Goal)
	switch s.Intn(5) {
	case 0, 1:
		other := s.pick("("+goal+") + 0", "1/2 * ("+goal+") + ("+goal+") / 2")
		if e, _, err := expr.Parse(other); err == api.OK { // it may be too large
			return e
		}
		return c.Goal
	case 2:
		return ex(s.pick("1", "1/2", "2", "0", "1/8"))
	case 3:
		e, err := expr.Simplify(c.Goal)
		if err != api.OK {
			return c.Goal
		}
		return e
	}
	return ex(s.expr(2, names))
}

// lemmas is a library of claims that hold. Its proofs are not looked at.
func lemmas() []api.Entry {
	return []api.Entry{
		entry("bern", 1, "exp(x) >= 1 + x for x in [-60, 60]"),
		entry("square", 1, "x^2 >= 0 for x in (-inf, inf)"),
		entry("mean", 2, "(x + y)^2 >= 4 * x * y for x in (-inf, inf), y in (-inf, inf)"),
		entry("sinus", 1, "x >= sin(x) for x in [0, inf)"),
		entry("sinus", 2, "x > sin(x) for x in [0, inf) where x > 0"),
		entry("one", 1, "1 > 0"),
	}
}

// step returns a step for a claim, with zero steps as kids, that often applies.
func (s source) step(c api.Claim) api.Step {
	rule := 1 + s.Intn(len(forms))
	at := s.point(c.Box)
	full := api.Step{Name: s.name(c), Other: s.name(c), At: s.number(), K: s.Intn(3), N: 1 + s.Intn(4), Prec: s.Intn(20), E: s.other(c), Point: at, Entry: "one", Ver: 1}
	if full.Other < full.Name {
		full.Name, full.Other = full.Other, full.Name
	}
	for _, v := range at {
		if v.Name == full.Name {
			full.At = v.Num
		}
	}
	if rule == api.RuleAdd {
		full.At = rat(s.pick("1", "1/2", "2"))
	}
	if rule == api.RuleLemma {
		e := lemmas()[s.Intn(len(lemmas()))]
		full.Entry, full.Ver = e.Name, e.Ver
		for _, side := range e.Claim.Box {
			full.Args = append(full.Args, api.Bind{Name: side.Name, E: s.other(c)})
		}
	}
	step := api.Step{Rule: rule, Kids: make([]api.Step, forms[rule].kids)}
	for _, field := range allFields {
		if uses(rule, field) {
			step = merge(step, full, field)
		}
	}
	return step
}

// prove returns a proof of c with at most this depth and true, if attempts with random steps find one.
func (s source) prove(c api.Claim, depth int) (api.Step, bool) {
	left := 60
	return s.attempt(c, depth, &left)
}

// attempt is prove with a number of steps that are left to be tried.
func (s source) attempt(c api.Claim, depth int, left *int) (api.Step, bool) {
	for range 24 {
		step := s.step(c)
		if *left == 0 {
			break
		}
		if len(step.Kids) > 0 && depth == 1 {
			continue
		}
		*left--
		claims, err := check.Apply(lemmas(), c, step)
		if err != api.OK {
			continue
		}
		proved := true
		for i, kid := range claims {
			if proved {
				step.Kids[i], proved = s.attempt(kid, depth-1, left)
			}
		}
		if proved {
			return step, true
		}
	}
	return api.Step{}, false
}

// rulesOf adds the numbers of the steps with each rule.
func rulesOf(s api.Step, counts map[int]int) {
	counts[s.Rule]++
	for _, kid := range s.Kids {
		rulesOf(kid, counts)
	}
}

// places returns the paths of all steps of s in the order of the visit.
func places(s api.Step) [][]int {
	var list [][]int
	paths(s, nil, func(path []int, _ api.Step) { list = append(list, slices.Clone(path)) })
	return list
}
