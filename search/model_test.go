package search_test

import (
	"fmt"
	"math/rand"
	"slices"
	"strconv"
	"strings"
	"testing"

	"inequality/api"
	"inequality/check"
	"inequality/claim"
	"inequality/enclose"
	"inequality/expr"
	"inequality/number"
	"inequality/search"
)

// A source makes random claims in the variables x, y and z.
type source struct{ *rand.Rand }

// newSource returns a source.
func newSource(seed int64) source {
	return source{rand.New(rand.NewSource(seed))}
}

// pick returns one of the texts.
func (s source) pick(texts ...string) string {
	return texts[s.Intn(len(texts))]
}

// expr returns the text of an expression of at most this depth in the variables among the names.
func (s source) expr(depth int, names []string) string {
	if depth <= 1 || s.Intn(8) == 0 {
		if len(names) > 0 && s.Intn(3) > 0 {
			return s.pick(names...)
		}
		return s.pick("0", "1", "2", "3", "1/2", "7/3", "pi")
	}
	a, b := "("+s.expr(depth-1, names)+")", "("+s.expr(depth-1, names)+")"
	forms := []string{a + " + " + b, a + " - " + b, a + " * " + b, "-" + a, a + "^2", a + "^" + strconv.Itoa(s.Intn(4)), "sin" + a}
	if s.Intn(3) == 0 {
		forms = append(forms, a+" / "+b, "exp"+a, "log"+a, "sqrt"+a, "root(3, "+a+")", "abs"+a, "min("+a+", "+b+")", "max("+a+", "+b+")", "if("+a+", "+b+", "+s.expr(depth-1, names)+")", a+"^-"+strconv.Itoa(s.Intn(3)), "atan"+a)
	}
	return s.pick(forms...)
}

// side returns the text of a side with small numbers, perhaps an unbounded one.
func (s source) side(name string) string {
	bounds := []string{"-3", "-2", "-1", "-1/2", "0", "0", "1/3", "1", "2", "3", "5"}
	i, j := s.Intn(len(bounds)), s.Intn(len(bounds))
	low, high := bounds[min(i, j)], bounds[max(i, j)]
	switch s.Intn(9) {
	case 0:
		return name + " in [" + low + ", inf)"
	case 1:
		return name + " in (-inf, " + high + "]"
	case 2:
		return name + " in (-inf, inf)"
	}
	return name + " in [" + low + ", " + high + "]"
}

// claim returns a claim. One in three is of a form that searches can do something with.
func (s source) claim() api.Claim {
	names := []string{"x", "y", "z"}[:s.Intn(4)]
	goal := s.expr(3, names)
	if len(names) > 0 && s.Intn(3) == 0 {
		x, y := names[0], names[len(names)-1]
		goal = s.pick(x+"^2 - "+y+" + "+s.pick("1/4", "3/10", "1", "3"), x+" - sin("+x+")", "exp("+x+") - (1 + "+x+")", x+" - "+x+"^3", "3/2 - sin("+x+") - cos("+y+")", "abs("+x+") - "+y, "max("+x+", "+y+") - min("+x+", "+y+") + "+x, x+" * "+y+" + "+x+"^2", "("+x+" - "+y+")^2 + "+x, "1 / (1 + "+x+"^2) - 1/20 * "+y, x+"^4 - 2 * "+y+"^2 + 9/8", "sqrt("+x+") - "+y, x+"^2 * ("+s.expr(2, names)+")")
	}
	text := "(" + goal + ")" + s.pick(" + 1/2", " + 1", " + 3", "", "") + s.pick(" >= 0", " > 0")
	for i, name := range names {
		text += []string{" for ", ", ", ", "}[i] + s.side(name)
	}
	for i := range max(s.Intn(5)-2, 0) {
		text += []string{" where ", ", "}[i] + s.pick(s.expr(2, names)+s.pick(" >= 0", " > 0"), "3/2"+s.pick(" >= ", " < ")+strings.Join(append(names, "1"), " + "))
	}
	c, _, err := claim.Parse(text)
	if err != api.OK { // as of 0^-1
		return s.claim()
	}
	return c
}

// corners returns the texts of the corners of a box, the lower end of the last side before its upper end.
func corners(b []api.Side) [][]string {
	if len(b) == 0 {
		return [][]string{nil}
	}
	last := b[len(b)-1]
	var list [][]string
	for _, end := range []api.Rat{last.Iv.Lo, last.Iv.Hi} {
		for _, rest := range corners(b[:len(b)-1]) {
			list = append(list, append(slices.Clone(rest), last.Name+"="+ratText(end)))
		}
	}
	return list
}

// modelCandidates returns the texts of the candidates of a box.
func modelCandidates(b []api.Side) []string {
	center, err := enclose.Center(b)
	if err != api.OK {
		return nil
	}
	list := []string{pointText(center)}
	for _, side := range b {
		if side.Iv.LoInf || side.Iv.HiInf {
			return list
		}
	}
	for _, corner := range corners(b) {
		if text := "[" + strings.Join(corner, ", ") + "]"; !slices.Contains(list, text) {
			list = append(list, text)
		}
	}
	return list
}

// modelSteps returns the texts of the steps that are tried in front of the points, and of those that are tried behind them.
func modelSteps(c api.Claim, p int) (front, behind []string) {
	prec := " " + strconv.Itoa(p)
	for k := range c.Conds {
		front = append(front, "empty "+strconv.Itoa(k)+prec)
	}
	front = append(front, "range"+prec, "mean"+prec, "taylor"+prec, "linear"+prec)
	for _, at := range modelCandidates(c.Box) {
		if v, ok, err := expr.Value(c.Goal, pt(at)); !c.Strict && ok && err == api.OK && ratText(v) == "0" {
			front = append(front, "zero "+at+prec)
		}
	}
	behind = append(behind, "branch"+prec)
	var slides, caves, narrows []string
	for _, side := range c.Box {
		low, high := !side.Iv.LoInf, !side.Iv.HiInf
		for n := range 8 {
			if end := []api.Rat{side.Iv.Lo, side.Iv.Hi}[n/4]; !c.Strict && len(c.Box) == 1 && (low && n < 4 || high && n >= 4) {
				front = append(front, "lead "+side.Name+" "+ratText(end)+" "+strconv.Itoa(n%4+1)+prec)
			}
		}
		if !low && !high {
			behind = append(behind, "turn "+side.Name+" 0")
		}
		slides = append(slides, "rise "+side.Name+prec, "fall "+side.Name+prec)
		caves = append(caves, "cave "+side.Name+prec)
	}
	for k := range c.Conds {
		for _, side := range c.Box {
			narrows = append(narrows, "narrow "+side.Name+" "+strconv.Itoa(k)+" 4"+prec)
		}
	}
	behind = append(append(append(behind, slides...), caves...), narrows...)
	if name, ok, err := enclose.Widest(c.Box); ok && err == api.OK {
		side, _ := enclose.Find(c.Box, name)
		behind = append(behind, modelCut(name, side))
	}
	return front, behind
}

// modelCut returns the text of the step that cuts a side.
func modelCut(name string, side api.Interval) string {
	low, high := rat("0"), rat("0")
	switch beyond := func(x api.Rat, n string) bool { less, _ := number.Compare(x, rat(n)); return less >= 0 }; {
	case !side.LoInf && !side.HiInf:
		low, high = side.Lo, side.Hi
	case !side.LoInf && beyond(side.Lo, "1"): // the middle of 0 and 4 times the end
		high, _ = number.Mul(side.Lo, rat("4"))
	case !side.LoInf:
		low = side.Lo
		high, _ = number.Add(low, rat("2"))
	case !side.HiInf && !beyond(side.Hi, "-1") || ratText(side.Hi) == "-1":
		low, _ = number.Mul(side.Hi, rat("4"))
	case !side.HiInf:
		high = side.Hi
		low, _ = number.Sub(high, rat("2"))
	}
	sum, _ := number.Add(low, high)
	middle, _ := number.Div(sum, rat("2"))
	return "cut " + name + " " + ratText(middle)
}

// modelMove returns the text of the move for a claim, as a second program finds it.
func modelMove(c api.Claim, p int) string {
	try := func(lines []string) string {
		for _, line := range lines {
			s := st(line)
			s.Kids = make([]api.Step, kids[check.Name(s.Rule)])
			claims, err := check.Apply(nil, c, s)
			if err != api.OK {
				continue
			}
			if len(claims) == 0 {
				return "proved " + line
			}
			text := "open " + line
			for _, d := range claims {
				text += " -> " + claimText(d)
			}
			return text
		}
		return ""
	}
	front, behind := modelSteps(c, p)
	if text := try(front); text != "" {
		return text
	}
	for _, at := range modelCandidates(c.Box) {
		if refutes, err := claim.Refutes(c, pt(at), p); refutes && err == api.OK {
			return "refuted " + at
		}
	}
	if text := try(behind); text != "" {
		return text
	}
	return "stuck"
}

// descend calls visit with a claim, with one of the claims that its move leaves, and so on. The precision changes on the way.
func (s source) descend(t *testing.T, c api.Claim, visit func(c api.Claim, p int, m api.Move)) {
	t.Helper()
	for range 4 {
		p := s.Intn(24)
		m, err := search.Attempt(disguisedClaim(c), plan(1+s.Intn(1500), p, s.Intn(41)))
		if err != api.OK {
			t.Errorf("Attempt(%s, %d): error %d", claimText(c), p, err)
		}
		visit(c, p, m)
		if len(m.Kids) == 0 {
			return
		}
		c = m.Kids[s.Intn(len(m.Kids))]
	}
}

// P8.3, P8.4: moves for random claims, and for the claims of their kids, are those of the model.
func TestAttemptModel(t *testing.T) {
	s := newSource(81)
	counts := map[string]int{}
	visit := func(c api.Claim, p int, m api.Move) {
		if got, want := moveText(m), modelMove(c, p); got != want {
			t.Errorf("Attempt(%s, %d):\n%s\nwant\n%s", claimText(c), p, got, want)
		}
		kind := fmt.Sprint(m.State, " ", check.Name(m.Step.Rule))
		counts[kind]++
		if n, ok := kids[check.Name(m.Step.Rule)]; ok && len(m.Kids) != n || !ok && len(m.Kids) > 0 {
			t.Errorf("%s has %d kids", kind, len(m.Kids))
		}
	}
	for range 900 {
		s.descend(t, s.claim(), visit)
	}
	for _, c := range attempts {
		for range 5 {
			s.descend(t, cl(c.claim), visit)
		}
	}
	for _, kind := range []string{"1 empty", "1 range", "1 mean", "1 taylor", "1 linear", "1 zero", "1 lead", "2 ", "0 branch", "0 turn", "0 rise", "0 fall", "0 cave", "0 narrow", "0 cut", "0 "} {
		if counts[kind] < 5 {
			t.Errorf("%s occurs %d times: %v", kind, counts[kind], counts)
		}
	}
}
