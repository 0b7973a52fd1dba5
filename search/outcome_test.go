package search_test

import (
	"slices"
	"strconv"
	"strings"
	"testing"

	"inequality/api"
	"inequality/check"
	"inequality/claim"
	"inequality/search"
)

// P8.7, P8.8: outcomes of searches, with plans that just suffice, and with plans that just do not.
func TestProve(t *testing.T) {
	const sinusProof = "0 turn x 0\n1 cut x 7/2\n2 cut x 7/4\n3 cut x 7/8\n4 cut x 7/16\n5 range 8\n5 taylor 8\n4 rise x 8\n5 range 8\n3 range 8\n2 cut x 21/4\n3 range 8\n3 cut x 49/8\n4 range 8\n4 fall x 8\n5 range 8\n"
	for _, c := range []struct {
		claim string
		plan  api.Plan
		want  string
	}{
		// proofs of one task need neither a budget nor levels
		{"x^2 + 1 > 0 for x in [-3, 5]", plan(1, 4, 0), "1 proved\n0 range 4\n"},
		{"1 > 0", plan(1, 0, 0), "1 proved\n0 range 0\n"},
		{"x^2 - 1 > 0 for x in [-3, 5]", plan(1, 4, 0), "1 refuted [x=1]"},
		{"1 < 0", plan(1, 4, 0), "1 refuted []"},
		{"log(-1) > 0", plan(1500, 8, 40), "1 open"},

		// budgets and levels that just suffice, and that just do not
		{sinus, plan(1500, 8, 40), "16 proved\n" + sinusProof},
		{sinus, plan(16, 8, 5), "16 proved\n" + sinusProof},
		{sinus, plan(15, 8, 5), "12 open"},
		{sinus, plan(16, 8, 4), "12 open"},
		{sinus, plan(12, 8, 5), "12 open"},
		{sinus, plan(12, 8, 3), "8 open"},
		{sinus, plan(11, 8, 5), "8 open"},
		{sinus, plan(7, 8, 5), "4 open"},
		{sinus, plan(4, 8, 5), "4 open"},
		{sinus, plan(3, 8, 5), "2 open"},
		{sinus, plan(2, 8, 1), "2 open"},
		{sinus, plan(1, 8, 5), "1 open"},
		{sinus, plan(1500, 8, 0), "1 open"},

		// kids in their order
		{"x - x^3 >= 0 for x in [0, 1]", plan(9, 8, 9), "3 proved\n0 cave x 8\n1 range 8\n1 range 8\n"},
		{"x^2 - x + 3/10 - y > 0 for x in [0, 2], y in [-1, 0]", plan(9, 8, 9), "4 proved\n0 fall y 8\n1 cut x 1\n2 taylor 8\n2 taylor 8\n"},
		{"x * y <= 1/2 for x in [0, 1], y in [0, 1] where x + y <= 1", plan(9, 8, 9), "8 proved\n0 cut x 1/2\n1 range 8\n1 narrow y 0 4 8\n2 narrow y 0 4 8\n3 cut y 9/32\n4 range 8\n4 narrow x 0 4 8\n5 range 8\n"},
		{"abs(x) >= x for x in [-1, 1]", plan(9, 8, 9), "4 proved\n0 branch 8\n1 mean 8\n1 narrow x 0 4 8\n2 range 8\n"},

		// stuck tasks, and tasks beside them whose kids are no tasks then
		{"sqrt(x)^2 + y^2 >= 3 for x in [3, 3], y in [0, 1]", plan(99, 8, 40), "3 open"},
		{"sqrt(2)^2 - 2 + x^3 - 4 * x^2 + 4 * x + x / 64 > 0 for x in [0, 4]", plan(99, 8, 40), "13 open"},
		{"sqrt(2)^2 - 2 + x^3 - 4 * x^2 + 4 * x - x / 64 > 0 for x in [0, 3]", plan(99, 8, 40), "13 refuted [x=33/16]"},
		{"1 / x > 0 for x in [-1, 0]", plan(1, 8, 40), "1 refuted [x=-1/2]"},

		// points
		{"x > 0 for x in [0, inf)", plan(2, 8, 1), "2 refuted [x=0]"},
		{"x > 0 for x in [0, inf)", plan(2, 8, 0), "1 open"},
		{"x > 0 for x in [0, inf)", plan(1, 8, 1), "1 open"},
		{"x < 1/3 for x in (-inf, 1/3]", plan(99, 8, 40), "2 open"},
		{"x < 1/4 for x in (-inf, 1/4]", plan(99, 8, 40), "2 refuted [x=1/4]"},
		{"x - x^3 > 0 for x in [0, 1], y in [0, inf) where y >= 0", plan(99, 8, 40), "3 refuted [x=0, y=1]"},
		{"x - x^3 + (1 - x) / 8 > 0 for x in [0, 1], y in [0, inf) where y >= 0", plan(99, 8, 40), "3 refuted [x=1, y=1]"},
		{"x - x^3 + x / 8 > 0 for x in [0, 1], y in [0, inf) where y >= 0", plan(99, 8, 40), "3 refuted [x=0, y=1]"},
		{"sin(x) + cos(x) < 7/5 for x in (-inf, inf)", plan(99, 8, 40), "2 refuted [x=7]"},
		{"sin(y) + cos(y) < 7/5 + x for x in [0, 1], y in (-inf, inf)", plan(99, 8, 40), "2 refuted [x=0, y=7]"},
		{"log(x) + 5 > 0 for x in [0, 1]", plan(99, 8, 40), "15 refuted [x=1/256]"},
		{"b + a^2 - a - c > -1/5 for a in [0, inf), b in [0, inf), c in (-inf, 0]", plan(99, 8, 40), "5 refuted [a=1/2, b=0, c=0]"},
		{"abs(x) + x^2 > 1/4 + x for x in [-2, inf)", plan(99, 8, 40), "7 refuted [x=0]"},
		{"c + b - a > 0 for a in (-inf, 1/2], b in [1/4, inf), c in [1/4, inf)", plan(99, 8, 40), "4 refuted [a=1/2, b=1/4, c=1/4]"},
	} {
		for _, d := range []api.Claim{cl(c.claim), disguisedClaim(cl(c.claim))} {
			if got := prove(t, d, c.plan); got != c.want {
				t.Errorf("Prove(%s, %v): %s\nwant %s", c.claim, c.plan, got, c.want)
			}
		}
		if got := modelOutcome(t, cl(c.claim), c.plan); got != c.want {
			t.Errorf("the model's outcome of %s, %v is %s", c.claim, c.plan, got)
		}
	}
}

// A node is a task of the model of a search.
type node struct {
	claim  api.Claim
	move   api.Move
	parent *node
	child  int
	kids   []*node
}

// proof returns the proof of the model.
func (n *node) proof() api.Step {
	s := n.move.Step
	for _, kid := range n.kids {
		s.Kids = append(s.Kids, kid.proof())
	}
	return s
}

// point returns the text of the model's point: the values of the sides that a claim has and its kid has not are added.
func (n *node) point() string {
	values := map[string]string{}
	for _, v := range n.move.Point {
		values[v.Name] = ratText(v.Num)
	}
	for ; n.parent != nil; n = n.parent {
		for _, side := range n.parent.claim.Box {
			if slices.ContainsFunc(n.claim.Box, func(s api.Side) bool { return s.Name == side.Name }) {
				continue
			}
			end := side.Iv.Lo
			if rule := check.Name(n.parent.move.Step.Rule); rule == "fall" || rule == "cave" && n.child == 1 {
				end = side.Iv.Hi
			}
			values[side.Name] = ratText(end)
		}
	}
	var list []string
	for name, value := range values {
		list = append(list, name+"="+value)
	}
	slices.Sort(list)
	return "[" + strings.Join(list, ", ") + "]"
}

// modelOutcome returns the text of the outcome of a search, as a second program finds it.
func modelOutcome(t *testing.T, c api.Claim, p api.Plan) string {
	t.Helper()
	root := &node{claim: c}
	level, used := []*node{root}, 1
	for depth := 0; ; depth++ {
		var next []*node
		stuck := false
		refuted := ""
		for _, n := range level {
			n.move = moveFor(t, n.claim, p)
			text := moveText(n.move)
			if strings.HasPrefix(text, "refuted") && refuted == "" {
				refuted = strconv.Itoa(used) + " refuted " + n.point()
			}
			stuck = stuck || text == "stuck"
			for i, kid := range n.move.Kids {
				next = append(next, &node{claim: kid, parent: n, child: i})
			}
		}
		switch {
		case refuted != "":
			return refuted
		case len(next) == 0 && !stuck:
			text, err := check.Print(root.proof())
			if err != api.OK {
				t.Errorf("Print: error %d", err)
			}
			return strconv.Itoa(used) + " proved\n" + text
		case len(next) == 0 || stuck || used+len(next) > p.Budget || depth == p.Levels:
			return strconv.Itoa(used) + " open"
		}
		for _, n := range next {
			n.parent.kids = append(n.parent.kids, n)
		}
		used += len(next)
		level = next
	}
}

// shuffled returns the outcome of a search whose tasks get their moves in a random order.
func (s source) shuffled(t *testing.T, c api.Claim, p api.Plan) string {
	t.Helper()
	own := begin(t, c, p)
	for !own.Over() {
		if s.Intn(8) == 0 {
			own = own.Copy()
		}
		free := own.Free()
		post(t, own, free[s.Intn(len(free))], p)
	}
	return outcomeText(own.Outcome())
}

// P8.7 to P8.10: outcomes of random claims are those of the model, in every order; proofs are right, and points refute.
func TestProveModel(t *testing.T) {
	s := newSource(91)
	counts := map[string]int{}
	for range 500 {
		c := s.claim()
		for len(c.Box) > 0 && moveFor(t, c, plan(1, 8, 0)).State != api.Open {
			c = s.claim()
		}
		p := plan([]int{1, 2, 3, 5, 8, 13, 20, 40}[s.Intn(8)], s.Intn(24), []int{0, 1, 2, 3, 6, 40}[s.Intn(6)])
		o, err := search.Prove(disguisedClaim(c), p)
		got := outcomeText(o)
		if want := modelOutcome(t, c, p); got != want || err != api.OK {
			t.Errorf("Prove(%s, %v): %s, error %d\nwant %s", claimText(c), p, got, err, want)
		}
		if o.Used < 1 || o.Used > p.Budget {
			t.Errorf("Prove(%s, %v) uses %d tasks", claimText(c), p, o.Used)
		}
		kind := strings.Fields(got)[1]
		if o.Used > 3 {
			kind += " with many"
			if other := s.shuffled(t, c, p); other != got {
				t.Errorf("in another order, %s, %v: %s\nwant %s", claimText(c), p, other, got)
			}
		}
		counts[kind]++
		if o.State == api.Proved {
			if v := check.Check(nil, c, o.Proof); v.Err != api.OK || v.Steps != o.Used {
				t.Errorf("the proof of %s: %v\n%s", claimText(c), v, got)
			}
		}
		if o.State == api.Refuted {
			if refutes, err := claim.Refutes(c, o.Point, p.Prec); !refutes || err != api.OK {
				t.Errorf("%s does not refute %s", got, claimText(c))
			}
		}
	}
	for _, kind := range []string{"proved", "proved with many", "refuted", "refuted with many", "open", "open with many"} {
		if counts[kind] < 10 {
			t.Errorf("%s occurs %d times: %v", kind, counts[kind], counts)
		}
	}
}

// P8.9: points that were completed by the ends of sides that were dropped, in all ways.
func TestCompleted(t *testing.T) {
	s := newSource(101)
	counts := map[string]int{}
	for range 150 {
		// y is dropped at an end, and x where the root of a goal in x is crossed
		low := s.pick("y in [-1/2, inf)", "y in (-inf, 3/4]", "y in [-1, 1/2]")
		slope := s.pick("+ y", "- y", "+ exp(y)", "- y^3", "- y^2", "- y^2 + y/4")
		goal := s.pick("x^2 - x ", "sin(x) + cos(x) ", "x^4 - x^2 ", "abs(x) - x / 2 ") + slope + " + " + s.pick("0", "1/4", "1/3", "1", "3/2")
		side := s.pick("x in [-1, 3]", "x in [0, inf)", "x in (-inf, inf)", "x in (-inf, 1]")
		c := cl(strings.ReplaceAll(goal, "y/4", "y / 4") + " > 0 for w in [1, 2], " + side + ", " + low + s.pick("", " where y + 1 >= 0", " where w <= 3/2"))
		p := plan(60, 10, 12)
		o, err := search.Prove(c, p)
		if got, want := outcomeText(o), modelOutcome(t, c, p); got != want || err != api.OK {
			t.Errorf("Prove(%s): %s\nwant %s", claimText(c), got, want)
		}
		if o.State != api.Refuted {
			continue
		}
		if refutes, err := claim.Refutes(c, o.Point, p.Prec); !refutes || err != api.OK {
			t.Errorf("%s does not refute %s", pointText(o.Point), claimText(c))
		}
		own := begin(t, c, p)
		rules := map[string]bool{}
		for !own.Over() {
			i := own.Free()[0]
			m := moveOf(t, own, i, p)
			rules[check.Name(m.Step.Rule)] = true
			own.Post(i, m)
		}
		for rule := range rules {
			counts[rule]++
		}
	}
	for _, rule := range []string{"rise", "fall", "cave", "cut", "branch", "narrow", "turn"} {
		if counts[rule] < 5 {
			t.Errorf("%s occurs in %d searches: %v", rule, counts[rule], counts)
		}
	}
}
