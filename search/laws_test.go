package search_test

import (
	"strconv"
	"testing"

	"inequality/api"
	"inequality/check"
	"inequality/claim"
	"inequality/number"
	"inequality/search"
)

// P8.11: what is proved or refuted with a plan is so in the same way with more tasks and levels, and with just as many as are used.
func TestBudget(t *testing.T) {
	s := newSource(111)
	decided := 0
	list := []api.Claim{cl(sinus), cl("log(x) + 5 > 0 for x in [0, 1]"), cl("x^4 - 2 * x^2 + 9/8 > 0 for x in [-2, 2]"), cl("x * y <= 1/2 for x in [0, 1], y in [0, 1] where x + y <= 1"), cl("abs(x) + x^2 > 1/4 + x for x in [-2, inf)")}
	for len(list) < 45 {
		if c := s.claim(); moveFor(t, c, plan(1, 8, 0)).State == api.Open {
			list = append(list, c)
		}
	}
	outcome := func(c api.Claim, p api.Plan) api.Outcome { // as of Prove, with moves that are kept
		own := begin(t, c, p)
		for !own.Over() {
			post(t, own, own.Free()[0], plan(1500, p.Prec, 40))
		}
		return own.Outcome()
	}
	for _, c := range list {
		best := outcome(c, plan(100, 8, 40))
		if best.State == api.Open {
			continue
		}
		decided++
		want := outcomeText(best)
		for _, budget := range []int{1, 2, 3, best.Used - 2, best.Used - 1, best.Used, best.Used + 1, 100} {
			p := plan(max(budget, 1), 8, 40)
			o := outcome(c, p)
			if o.Used > p.Budget || p.Budget >= best.Used && outcomeText(o) != want || p.Budget < best.Used && o.State != api.Open {
				t.Errorf("with the budget %d, %s: %s\nwant %s", budget, claimText(c), outcomeText(o), want)
			}
		}
		depth := 0
		for outcome(c, plan(100, 8, depth)).State == api.Open {
			depth++
		}
		for _, p := range []api.Plan{plan(1500, 8, 40), plan(best.Used, 8, depth), plan(best.Used+1, 8, depth+1), plan(1500, 8, depth), plan(best.Used, 8, 40)} {
			if got := prove(t, c, p); got != want {
				t.Errorf("Prove(%s, %v): %s, want %s", claimText(c), p, got, want)
			}
		}
		if depth > 0 {
			if o, _ := search.Prove(c, plan(1500, 8, depth-1)); o.State != api.Open {
				t.Errorf("Prove(%s) does not need %d levels", claimText(c), depth)
			}
		}
	}
	if decided < 15 {
		t.Errorf("only %d claims are decided", decided)
	}
}

// parts returns the claims on the parts into which d halvings divide the only side of a claim.
func parts(c api.Claim, d int) []api.Claim {
	if d == 0 {
		return []api.Claim{c}
	}
	side := c.Box[0]
	middle, err := number.Middle(side.Iv.Lo, side.Iv.Hi)
	if err != api.OK {
		panic("a middle that is large")
	}
	low, high := c, c
	low.Box = []api.Side{{Name: side.Name, Iv: api.Interval{Lo: side.Iv.Lo, Hi: middle}}}
	high.Box = []api.Side{{Name: side.Name, Iv: api.Interval{Lo: middle, Hi: side.Iv.Hi}}}
	return append(parts(low, d-1), parts(high, d-1)...)
}

// enough returns the least number of halvings up to 4 after which the natural interval extension shows a claim.
func enough(c api.Claim, p int) (int, bool) {
	for d := range 5 {
		all := true
		for _, part := range parts(c, d) {
			_, err := check.Apply(nil, part, api.Step{Rule: api.RuleRange, Prec: p})
			all = all && err == api.OK
		}
		if all {
			return d, true
		}
	}
	return 0, false
}

// rational returns the text of an expression in x without roots, calls and cases, whose natural interval extension is far from its values.
func (s source) rational() string {
	terms := []string{"x", "x^2", "x^3", "x^4", "x * (1 - x)", "1 / (1 + x^2)", "x / (2 + x^2)", "(x - 11/2)^-2", "x / pi", "(x + 1/3) / (x + 6)"}
	text := ""
	for range 2 + s.Intn(3) {
		text += s.pick("1", "-2", "-1/3", "5/2", "-1") + " * " + s.pick(terms...) + " + "
	}
	return text
}

// P8.12: rational goals in one variable that the natural interval extension shows on equal parts.
func TestOneVariable(t *testing.T) {
	s := newSource(121)
	counts := map[int]int{}
	for range 120 {
		goal, side, rel := s.rational(), s.side("x"), s.pick(" >= 0", " > 0")
		p := 2 + s.Intn(20)
		var c api.Claim
		d, ok := 0, false
		for more := 0; more < 40 && !ok; more++ { // the least one that is enough makes it hard
			c = cl(goal + strconv.Itoa(more) + " / 2" + rel + " for " + side)
			if c.Box[0].Iv.LoInf || c.Box[0].Iv.HiInf {
				break
			}
			d, ok = enough(c, p)
		}
		if !ok {
			continue
		}
		counts[d]++
		o, err := search.Prove(c, plan(1<<(d+1), p, d))
		if o.State != api.Proved || err != api.OK {
			t.Errorf("Prove(%s, %d) with %d halvings: %s, error %d", claimText(c), p, d, outcomeText(o), err)
		}
		if d < 2 {
			continue
		}
		if v := check.Check(nil, c, o.Proof); v.Err != api.OK {
			t.Errorf("the proof of %s: error %d at %v", claimText(c), v.Err, v.Path)
		}
	}
	for d, least := range []int{5, 1, 5, 5, 5} {
		if counts[d] < least {
			t.Errorf("%d claims need %d halvings: %v", counts[d], d, counts)
		}
	}
}

// P2, P3: proofs of true claims of several kinds, and points that refute false ones that are close to them.
func TestClose(t *testing.T) {
	p := plan(400, 20, 30)
	for _, c := range []struct{ claim, proved, refuted string }{
		{"exp(x) + E >= 1 + x for x in [-1, 2]", "1/100", "-1/100"},
		{"sin(x) + cos(x) < 3/2 + E for x in (-inf, inf)", "-1/20", "-1/8"},
		{"x * y <= 1/4 + E for x in [0, 1], y in [0, 1] where x + y <= 1", "1/10", "-1/100"},
		{"x / (1 + x^2) <= 1/2 + E for x in (-inf, 5]", "1/100", "-1/100"},
		{"sqrt(x) + sqrt(y) <= 2 + E for x in [0, 2], y in [0, 2] where x + y <= 2", "1/2", "-1/10"},
		{"max(x, 1 - x) >= 1/2 - E for x in [0, 1]", "1/100", "-1/3"},
		{"if(x, x^2, -x) + E >= 0 for x in [-1, 1]", "1/10", "-1/10"},
		{"log(1 + x) <= x + E for x in [0, inf)", "0", "-1/10"},
		{"atan(x) + E > 0 for x in [1, inf)", "-3/4", "-4/5"},
	} {
		for i, e := range []string{c.proved, c.refuted} {
			text := replaced(c.claim, e)
			o, err := search.Prove(cl(text), p)
			if want := []int{api.Proved, api.Refuted}[i]; o.State != want || err != api.OK {
				t.Errorf("Prove(%s): %s, error %d", text, cut(outcomeText(o)), err)
			}
			if v := check.Check(nil, cl(text), o.Proof); i == 0 && v.Err != api.OK {
				t.Errorf("the proof of %s: error %d at %v", text, v.Err, v.Path)
			}
			if refutes, _ := claim.Refutes(cl(text), o.Point, p.Prec); i == 1 && !refutes {
				t.Errorf("%s does not refute %s", pointText(o.Point), text)
			}
		}
	}
}

// replaced returns the text of a claim with a number in the place of E.
func replaced(text, number string) string {
	result := ""
	for _, r := range text {
		if r == 'E' {
			result += "(" + number + ")"
		} else {
			result += string(r)
		}
	}
	return result
}

// The examples of the chapter, and those of the document that are about searches.
func TestExamples(t *testing.T) {
	for _, c := range []struct {
		claim string
		prec  int
		want  string
	}{
		{"x^2 + 1 > 0 for x in [-3, 5]", 4, "1 proved\n0 range 4\n"},
		{"x^2 - 1 > 0 for x in [-3, 5]", 4, "1 refuted [x=1]"},
		{"x - sin(x) >= 0 for x in [0, inf)", 8, "1 proved\n0 lead x 0 1 8\n"},
		{"x + 1 - sin(x) > 0 for x in [0, inf)", 8, "2 proved\n0 rise x 8\n1 range 8\n"},
		{"exp(x) >= 1 + x for x in [-1, 1]", 8, "1 proved\n0 taylor 8\n"},
		{"exp(x) >= 1 + x for x in [0, 1]", 8, "1 proved\n0 zero [x=0] 8\n"},
		{"x^2 > 0 for x in [-1, 1]", 4, "1 refuted [x=0]"},
		{"x^2 - x + 1 > 0 for x in [0, 1]", 4, "1 proved\n0 mean 4\n"},
		{"sin(x) + 2 > 0 for x in (-inf, inf)", 4, "1 proved\n0 range 4\n"},
		{"log(x) <= x - 1 for x in [1/2, 1]", 8, "1 proved\n0 zero [x=1] 8\n"},
	} {
		if got := prove(t, cl(c.claim), plan(50, c.prec, 10)); got != c.want {
			t.Errorf("Prove(%s): %s", c.claim, got)
		}
	}
	if got := attempt(t, cl("abs(x) + abs(y) >= max(x, y) for x in [-1, 1], y in [-1, 1]"), plan(50, 8, 10)); got != "open branch 8 -> x + abs(y) - max(x, y) >= 0 for x in [-1, 1], y in [-1, 1] where x >= 0 -> -x + abs(y) - max(x, y) >= 0 for x in [-1, 1], y in [-1, 1] where -x > 0" {
		t.Error(got)
	}
}
