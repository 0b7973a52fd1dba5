package search_test

import (
	"fmt"
	"slices"
	"strconv"
	"strings"
	"testing"

	"inequality/api"
	"inequality/check"
	"inequality/claim"
	"inequality/expr"
	"inequality/number"
	"inequality/search"
)

// kids is the number of kids of each rule that a move may have.
var kids = map[string]int{"range": 0, "mean": 0, "taylor": 0, "linear": 0, "empty": 0, "zero": 0, "lead": 0, "cut": 2, "rise": 1, "fall": 1, "cave": 2, "narrow": 1, "branch": 2, "turn": 1}

// rat returns the number of a text as in `-1/2`, or of `2^n` with an integer n, perhaps with `-` in front and, for n that is a multiple of 32, with `-1` behind.
func rat(text string) api.Rat {
	size, neg := strings.CutPrefix(text, "-")
	size, ok := strings.CutPrefix(size, "2^")
	if !ok {
		x, err := number.Parse(text)
		if err != api.OK {
			panic(text)
		}
		return x
	}
	size, less := strings.CutSuffix(size, "-1")
	n, err := strconv.Atoi(size)
	if err != nil {
		panic(text)
	}
	power := append(make([]uint32, max(n, -n)/32), 1<<(max(n, -n)%32))
	if n < 0 {
		return api.Rat{Neg: neg, Num: []uint32{1}, Den: power}
	}
	if less {
		power = slices.Repeat([]uint32{1<<32 - 1}, n/32)
	}
	return api.Rat{Neg: neg, Num: power}
}

// ex returns the expression of a text that has no error.
func ex(text string) api.Expr {
	e, at, err := expr.Parse(text)
	if err != api.OK {
		panic(text + ": error " + strconv.Itoa(int(err)) + " at " + strconv.Itoa(at))
	}
	return e
}

// cl returns the claim of a text that has no error.
func cl(text string) api.Claim {
	c, at, err := claim.Parse(text)
	if err != api.OK {
		panic(text + ": error " + strconv.Itoa(int(err)) + " at " + strconv.Itoa(at))
	}
	return c
}

// iv returns the interval of a text as in `[-1/2, 2^7]` or `(-inf, inf)`.
func iv(text string) api.Interval {
	low, high, _ := strings.Cut(text[1:len(text)-1], ", ")
	var a api.Interval
	if a.LoInf = low == "-inf"; !a.LoInf {
		a.Lo = rat(low)
	}
	if a.HiInf = high == "inf"; !a.HiInf {
		a.Hi = rat(high)
	}
	return a
}

// over returns the claim of a text with other intervals as sides, whose numbers may be too long to be written.
func over(text string, sides ...string) api.Claim {
	c := cl(text)
	for i, side := range sides {
		c.Box[i].Iv = iv(side)
	}
	return c
}

// plan returns a plan.
func plan(budget, prec, levels int) api.Plan {
	return api.Plan{Budget: budget, Prec: prec, Levels: levels}
}

// ratText returns the text of a number.
func ratText(x api.Rat) string {
	text, err := number.Format(x)
	if err != api.OK {
		return fmt.Sprint(x)
	}
	return text
}

// claimText returns the text of a claim.
func claimText(c api.Claim) string {
	text, err := claim.Print(c)
	if err != api.OK {
		return fmt.Sprint(c)
	}
	return text
}

// pointText returns the text of a point as in `[x=1, y=2]`.
func pointText(at []api.Value) string {
	var list []string
	for _, v := range at {
		list = append(list, v.Name+"="+ratText(v.Num))
	}
	return "[" + strings.Join(list, ", ") + "]"
}

// pt returns the point of a text as in `[x=1, y=2]`.
func pt(text string) []api.Value {
	var at []api.Value
	for _, part := range strings.Split(text[1:len(text)-1], ", ") {
		if name, value, ok := strings.Cut(part, "="); ok {
			at = append(at, api.Value{Name: name, Num: rat(value)})
		}
	}
	return at
}

// stepText returns the text of a step without kids.
func stepText(s api.Step) string {
	for range kids[check.Name(s.Rule)] {
		s.Kids = append(s.Kids, api.Step{Rule: api.RuleRange})
	}
	text, err := check.Print(s)
	if err != api.OK {
		return fmt.Sprintf("%v: error %d", s, err)
	}
	line, _, _ := strings.Cut(text, "\n")
	return strings.TrimPrefix(line, "0 ")
}

// st returns the step of a text, without kids.
func st(line string) api.Step {
	name, _, _ := strings.Cut(line, " ")
	text := "0 " + line + "\n" + strings.Repeat("1 range 0\n", kids[name])
	s, at, err := check.Parse(text)
	if err != api.OK {
		panic(fmt.Sprintf("%s: error %d in line %d", text, err, at))
	}
	s.Kids = nil
	return s
}

// moveText returns the text of a move: `refuted` and its point, `stuck`, or its state, its step and, behind arrows, the claims of the kids. A move of which something is wrong has another text.
func moveText(m api.Move) string {
	hasStep, hasPoint := !check.Equal(m.Step, api.Step{}), len(m.Point) > 0
	text := "stuck"
	switch {
	case m.State == api.Refuted && !hasStep && len(m.Kids) == 0:
		return "refuted " + pointText(m.Point)
	case m.State == api.Proved && hasStep && !hasPoint && len(m.Kids) == 0 && len(m.Step.Kids) == 0:
		return "proved " + stepText(m.Step)
	case m.State == api.Open && hasStep && !hasPoint && len(m.Kids) > 0 && len(m.Step.Kids) == 0:
		text = "open " + stepText(m.Step)
	case m.State != api.Open || hasStep || hasPoint || len(m.Kids) > 0:
		return fmt.Sprintf("wrong: %v", m)
	}
	for _, c := range m.Kids {
		text += " -> " + claimText(c)
	}
	return text
}

// outcomeText returns the text of an outcome: the number of tasks, the state, and the proof or the point.
func outcomeText(o api.Outcome) string {
	hasProof, hasPoint := !check.Equal(o.Proof, api.Step{}), len(o.Point) > 0
	used := strconv.Itoa(o.Used)
	switch {
	case o.State == api.Proved && hasProof && !hasPoint:
		proof, err := check.Print(o.Proof)
		if err != api.OK {
			return fmt.Sprintf("%v: error %d", o, err)
		}
		return used + " proved\n" + proof
	case o.State == api.Refuted && !hasProof:
		return used + " refuted " + pointText(o.Point)
	case o.State == api.Open && !hasProof && !hasPoint:
		return used + " open"
	}
	return fmt.Sprintf("wrong: %v", o)
}

// attempt returns the text of the move for a claim.
func attempt(t *testing.T, c api.Claim, p api.Plan) string {
	t.Helper()
	m, err := search.Attempt(c, p)
	if err != api.OK {
		t.Errorf("Attempt(%s, %v): error %d", claimText(c), p, err)
	}
	return moveText(m)
}

// prove returns the text of the outcome of a search.
func prove(t *testing.T, c api.Claim, p api.Plan) string {
	t.Helper()
	o, err := search.Prove(c, p)
	if err != api.OK {
		t.Errorf("Prove(%s, %v): error %d", claimText(c), p, err)
	}
	return outcomeText(o)
}

// disguised returns a number equal to x that is not canonical.
func disguised(x api.Rat) api.Rat {
	times := func(words []uint32) []uint32 {
		y, _ := number.Mul(api.Rat{Num: words}, number.FromInt(6))
		return append(slices.Clone(y.Num), 0, 0)
	}
	switch {
	case len(x.Num) == 0:
		return api.Rat{Neg: true, Num: []uint32{0}, Den: []uint32{0, 7}}
	case len(x.Num) > 60 || len(x.Den) > 60:
		return api.Rat{Neg: x.Neg, Num: append(slices.Clone(x.Num), 0), Den: append(slices.Clone(x.Den), 0)}
	case len(x.Den) == 0:
		x.Den = []uint32{1}
	}
	return api.Rat{Neg: x.Neg, Num: times(x.Num), Den: times(x.Den)}
}

// disguisedExpr returns an expression equal to e that is not canonical.
func disguisedExpr(e api.Expr) api.Expr {
	e.Num = disguised(e.Num)
	kids := e.Kids
	e.Kids = nil
	for _, kid := range kids {
		e.Kids = append(e.Kids, disguisedExpr(kid))
	}
	return e
}

// disguisedClaim returns a claim equal to c that is not canonical.
func disguisedClaim(c api.Claim) api.Claim {
	d := api.Claim{Goal: disguisedExpr(c.Goal), Strict: c.Strict}
	for _, s := range c.Box {
		a := api.Interval{Lo: disguised(s.Iv.Lo), Hi: disguised(s.Iv.Hi), LoInf: s.Iv.LoInf, HiInf: s.Iv.HiInf}
		if a.LoInf { // what is not looked at may be anything
			a.Lo = disguised(rat("7/3"))
		}
		if a.HiInf {
			a.Hi = disguised(rat("-9/5"))
		}
		d.Box = append(d.Box, api.Side{Name: s.Name, Iv: a})
	}
	for _, k := range c.Conds {
		d.Conds = append(d.Conds, api.Cond{E: disguisedExpr(k.E), Strict: k.Strict})
	}
	return d
}

// endlessExpr returns an expression that contains itself.
func endlessExpr() api.Expr {
	e := api.Expr{Op: api.OpNeg, Kids: make([]api.Expr, 1)}
	e.Kids[0] = e
	return e
}

// badClaims are claims that are not valid.
func badClaims() []api.Claim {
	good := cl("x > 0 for x in [0, 1] where x > 0")
	list := []api.Claim{{}}
	change := func(edit func(c *api.Claim)) {
		c := disguisedClaim(good)
		edit(&c)
		list = append(list, c)
	}
	change(func(c *api.Claim) { c.Goal = ex("y") })
	change(func(c *api.Claim) { c.Goal = endlessExpr() })
	change(func(c *api.Claim) { c.Conds[0].E = ex("y") })
	change(func(c *api.Claim) { c.Conds[0].E = api.Expr{} })
	change(func(c *api.Claim) { c.Conds = slices.Repeat(c.Conds, 13) })
	change(func(c *api.Claim) { c.Box[0].Name = "X" })
	change(func(c *api.Claim) { c.Box[0].Iv = iv("[2, 1]") })
	change(func(c *api.Claim) { c.Box[0].Iv.Hi = rat("2^2048") })
	change(func(c *api.Claim) { c.Box = slices.Repeat(c.Box, 2) })
	return list
}

// goodPlans are valid plans, with every number at both of its limits.
func goodPlans() []api.Plan {
	return []api.Plan{plan(1, 0, 0), plan(1500, 128, 40), plan(1, 128, 0), plan(1500, 0, 0), plan(1, 0, 40), plan(30, 8, 10)}
}

// badPlans are plans that are not valid.
func badPlans() []api.Plan {
	const least, most = -1 << 63, 1<<63 - 1
	return []api.Plan{{}, plan(0, 8, 10), plan(-1, 8, 10), plan(1501, 8, 10), plan(30, -1, 10), plan(30, 129, 10), plan(30, 8, -1), plan(30, 8, 41), plan(least, 8, 10), plan(most, 8, 10), plan(30, least, 10), plan(30, most, 10), plan(30, 8, least), plan(30, 8, most), plan(0, -1, -1)}
}

// TestHelpers checks that the tests' own texts are read as they are written.
func TestHelpers(t *testing.T) {
	for _, line := range []string{"range 8", "cut x -1/2", "narrow y 1 4 8", "zero [x=1, y=-1/3] 9", "zero [] 9", "lead x 0 3 7"} {
		if got := stepText(st(line)); got != line {
			t.Errorf("%s is read as %s", line, got)
		}
	}
	for _, at := range []string{"[]", "[x=1]", "[x=1, y=-1/3]"} {
		if got := pointText(pt(at)); got != at {
			t.Errorf("%s is read as %s", at, got)
		}
	}
	if got := claimText(over("x > 0 for x in [0, 1]", "(-inf, 2^3]")); got != "x > 0 for x in (-inf, 8]" {
		t.Error(got)
	}
}
