package check_test

import (
	"fmt"
	"slices"
	"strconv"
	"strings"
	"testing"

	"inequality/api"
	"inequality/claim"
	"inequality/expr"
	"inequality/number"
)

// A form is a row of the table of rules: the name, the fields in their order, and the number of kids.
type form struct {
	name, fields string
	kids         int
}

// forms is the table of rules.
var forms = map[int]form{
	1:  {"range", "Prec", 0},
	2:  {"mean", "Prec", 0},
	3:  {"taylor", "Prec", 0},
	4:  {"linear", "Prec", 0},
	5:  {"empty", "K Prec", 0},
	6:  {"cut", "Name At", 2},
	7:  {"rise", "Name Prec", 1},
	8:  {"fall", "Name Prec", 1},
	9:  {"cave", "Name Prec", 2},
	10: {"narrow", "Name K N Prec", 1},
	11: {"branch", "Prec", 2},
	12: {"turn", "Name At", 1},
	13: {"swap", "Name Other Prec", 1},
	14: {"zero", "Point Prec", 0},
	15: {"lead", "Name At N Prec", 0},
	16: {"same", "E Prec", 1},
	17: {"via", "E", 2},
	18: {"scale", "E", 2},
	19: {"add", "K At", 1},
	20: {"lemma", "Entry Ver Args Prec", 1},
	21: {"far", "Name N E Prec", 1},
}

// allFields are the names of the fields of a step beside Rule and Kids.
var allFields = strings.Fields("Name Other At K N Prec E Point Entry Ver Args")

// uses reports whether a rule uses a field.
func uses(rule int, field string) bool {
	return slices.Contains(strings.Fields(forms[rule].fields), field)
}

// rat returns the number of a text as in `-1/2`, or of `2^n` with an integer n, perhaps with `-` in front and, for n that is a multiple of 32, with `-1` behind.
func rat(text string) api.Rat {
	size, neg := strings.CutPrefix(text, "-")
	size, ok := strings.CutPrefix(size, "2^")
	if !ok {
		x, err := number.Parse(text)
		if err != api.OK {
			panic(text)
		}
		return x
	}
	size, less := strings.CutSuffix(size, "-1")
	n, err := strconv.Atoi(size)
	if err != nil {
		panic(text)
	}
	power := append(make([]uint32, max(n, -n)/32), 1<<(max(n, -n)%32))
	if n < 0 {
		return api.Rat{Neg: neg, Num: []uint32{1}, Den: power}
	}
	if less {
		power = slices.Repeat([]uint32{1<<32 - 1}, n/32)
	}
	return api.Rat{Neg: neg, Num: power}
}

// ex returns the expression of a text that has no error.
func ex(text string) api.Expr {
	e, at, err := expr.Parse(text)
	if err != api.OK {
		panic(text + ": error " + strconv.Itoa(int(err)) + " at " + strconv.Itoa(at))
	}
	return e
}

// cl returns the claim of a text that has no error.
func cl(text string) api.Claim {
	c, at, err := claim.Parse(text)
	if err != api.OK {
		panic(text + ": error " + strconv.Itoa(int(err)) + " at " + strconv.Itoa(at))
	}
	return c
}

// text returns the text of a claim.
func text(c api.Claim) string {
	s, err := claim.Print(c)
	if err != api.OK {
		return fmt.Sprint(c)
	}
	return s
}

// texts returns the texts of claims.
func texts(list []api.Claim) []string {
	var all []string
	for _, c := range list {
		all = append(all, text(c))
	}
	return all
}

// parts returns the parts of a line that spaces separate, where no space within braces or brackets does.
func parts(line string) []string {
	list := []string{""}
	depth := 0
	for _, c := range line {
		switch c {
		case '{', '[':
			depth++
		case '}', ']':
			depth--
		}
		if c == ' ' && depth == 0 {
			list = append(list, "")
			continue
		}
		list[len(list)-1] += string(c)
	}
	return list
}

// inside returns what is between an opening and an ending.
func inside(text, opening, ending string) string {
	if !strings.HasPrefix(text, opening) || !strings.HasSuffix(text, ending) || len(text) < len(opening)+len(ending) {
		panic(text)
	}
	return text[len(opening) : len(text)-len(ending)]
}

// whole returns the integer of a text.
func whole(text string) int {
	n, err := strconv.Atoi(text)
	if err != nil {
		panic(text)
	}
	return n
}

// st returns the step of a text as Print writes it, without its depth, and with as many zero steps as kids as its rule needs, unless kids are given.
func st(line string, kids ...api.Step) api.Step {
	words := parts(line)
	for rule, f := range forms {
		if f.name != words[0] {
			continue
		}
		s := api.Step{Rule: rule, Kids: kids}
		if len(kids) == 0 {
			s.Kids = make([]api.Step, f.kids)
		}
		fields := strings.Fields(f.fields)
		if len(words) != len(fields)+1 {
			panic(line)
		}
		for i, field := range fields {
			set(&s, field, words[i+1])
		}
		return s
	}
	panic(line)
}

// set gives a field of a step the value of a text.
func set(s *api.Step, field, text string) {
	switch field {
	case "Name":
		s.Name = text
	case "Other":
		s.Other = text
	case "Entry":
		s.Entry = text
	case "At":
		s.At = rat(text)
	case "K":
		s.K = whole(text)
	case "N":
		s.N = whole(text)
	case "Prec":
		s.Prec = whole(text)
	case "Ver":
		s.Ver = whole(text)
	case "E":
		s.E = ex(inside(text, "{", "}"))
	case "Point":
		for _, part := range elements(text, ", ") {
			name, value, _ := strings.Cut(part, "=")
			s.Point = append(s.Point, api.Value{Name: name, Num: rat(value)})
		}
	case "Args":
		for i, part := range elements(text, "}, ") {
			name, e, _ := strings.Cut(part, "=")
			if i < len(elements(text, "}, "))-1 {
				e += "}"
			}
			s.Args = append(s.Args, api.Bind{Name: name, E: ex(inside(e, "{", "}"))})
		}
	default:
		panic(field)
	}
}

// elements returns the parts of a list in brackets.
func elements(text, between string) []string {
	text = inside(text, "[", "]")
	if text == "" {
		return nil
	}
	return strings.Split(text, between)
}

// get returns the text of a field of a step.
func get(s api.Step, field string) string {
	exprText := func(e api.Expr) string {
		text, err := expr.Print(e)
		if err != api.OK {
			panic(err)
		}
		return "{" + text + "}"
	}
	ratText := func(x api.Rat) string {
		text, err := number.Format(x)
		if err != api.OK {
			panic(err)
		}
		return text
	}
	var list []string
	switch field {
	case "Name":
		return s.Name
	case "Other":
		return s.Other
	case "Entry":
		return s.Entry
	case "At":
		return ratText(s.At)
	case "K":
		return strconv.Itoa(s.K)
	case "N":
		return strconv.Itoa(s.N)
	case "Prec":
		return strconv.Itoa(s.Prec)
	case "Ver":
		return strconv.Itoa(s.Ver)
	case "E":
		return exprText(s.E)
	case "Point":
		for _, v := range s.Point {
			list = append(list, v.Name+"="+ratText(v.Num))
		}
	case "Args":
		for _, b := range s.Args {
			list = append(list, b.Name+"="+exprText(b.E))
		}
	}
	return "[" + strings.Join(list, ", ") + "]"
}

// lines returns the text of a proof, in another way than Print does.
func lines(s api.Step, depth int) string {
	text := strconv.Itoa(depth) + " " + forms[s.Rule].name
	for _, field := range strings.Fields(forms[s.Rule].fields) {
		text += " " + get(s, field)
	}
	text += "\n"
	for _, kid := range s.Kids {
		text += lines(kid, depth+1)
	}
	return text
}

// pf returns the proof of lines as Print writes them, in another way than Parse reads them; lines may be indented.
func pf(proof string) api.Step {
	list := strings.Split(strings.TrimSpace(proof), "\n")
	s, rest := read(list)
	if len(rest) > 0 {
		panic(proof)
	}
	return s
}

// read returns the proof that lines begin with, and the rest of them.
func read(list []string) (api.Step, []string) {
	depth, line, _ := strings.Cut(strings.TrimSpace(list[0]), " ")
	s, rest := st(line), list[1:]
	for i := range s.Kids {
		if kid, _, _ := strings.Cut(strings.TrimSpace(rest[0]), " "); whole(kid) != whole(depth)+1 {
			panic(rest[0])
		}
		s.Kids[i], rest = read(rest)
	}
	return s, rest
}

// fullSteps returns, for each rule, a step that uses all fields with values other than zero, and that can be written.
func fullSteps() []api.Step {
	var list []api.Step
	for rule := 1; rule <= len(forms); rule++ {
		s := api.Step{Rule: rule}
		for _, field := range strings.Fields(forms[rule].fields) {
			set(&s, field, samples[field])
		}
		for range forms[rule].kids {
			s.Kids = append(s.Kids, st("range 8"))
		}
		list = append(list, s)
	}
	return list
}

// samples are texts of values other than zero.
var samples = map[string]string{"Name": "x", "Other": "y1", "Entry": "bern", "At": "-7/3", "K": "3", "N": "5", "Prec": "17", "Ver": "2", "E": "{max(x, 1) - 2^-3}", "Point": "[x=1/3, y=-2]", "Args": "[x={y + 1/3}, y={max(x, y)}]"}

// sameRat reports whether x and y have the same fields. An empty list and nil are the same.
func sameRat(x, y api.Rat) bool {
	return x.Neg == y.Neg && slices.Equal(x.Num, y.Num) && slices.Equal(x.Den, y.Den)
}

// sameExpr reports whether e and f have the same fields.
func sameExpr(e, f api.Expr) bool {
	return e.Op == f.Op && e.Arg == f.Arg && sameRat(e.Num, f.Num) && e.Name == f.Name && slices.EqualFunc(e.Kids, f.Kids, sameExpr)
}

// identical reports whether s and t have the same fields.
func identical(s, t api.Step) bool {
	texts := s.Name == t.Name && s.Other == t.Other && s.Entry == t.Entry
	numbers := s.Rule == t.Rule && s.K == t.K && s.N == t.N && s.Prec == t.Prec && s.Ver == t.Ver && sameRat(s.At, t.At)
	points := slices.EqualFunc(s.Point, t.Point, func(v, w api.Value) bool { return v.Name == w.Name && sameRat(v.Num, w.Num) })
	args := slices.EqualFunc(s.Args, t.Args, func(b, c api.Bind) bool { return b.Name == c.Name && sameExpr(b.E, c.E) })
	return texts && numbers && sameExpr(s.E, t.E) && points && args && slices.EqualFunc(s.Kids, t.Kids, identical)
}

// isZero reports whether a step is the zero step.
func isZero(s api.Step) bool {
	return identical(s, api.Step{})
}

// disguised returns a number equal to x that is not canonical.
func disguised(x api.Rat) api.Rat {
	times := func(words []uint32) []uint32 {
		y, _ := number.Mul(api.Rat{Num: words}, number.FromInt(6))
		return append(slices.Clone(y.Num), 0, 0)
	}
	switch {
	case len(x.Num) == 0:
		return api.Rat{Neg: true, Num: []uint32{0}, Den: []uint32{0, 7}}
	case len(x.Num) > 60 || len(x.Den) > 60:
		return api.Rat{Neg: x.Neg, Num: append(slices.Clone(x.Num), 0), Den: append(slices.Clone(x.Den), 0)}
	case len(x.Den) == 0:
		x.Den = []uint32{1}
	}
	return api.Rat{Neg: x.Neg, Num: times(x.Num), Den: times(x.Den)}
}

// disguisedExpr returns an expression equal to e that is not canonical.
func disguisedExpr(e api.Expr) api.Expr {
	e.Num = disguised(e.Num)
	kids := e.Kids
	e.Kids = nil
	for _, kid := range kids {
		e.Kids = append(e.Kids, disguisedExpr(kid))
	}
	return e
}

// disguisedStep returns a step equal to s that is not canonical.
func disguisedStep(s api.Step) api.Step {
	point, args, kids := s.Point, s.Args, s.Kids
	s.At, s.E = disguised(s.At), disguisedExpr(s.E)
	s.Point, s.Args, s.Kids = nil, nil, nil
	for _, v := range point {
		s.Point = append(s.Point, api.Value{Name: v.Name, Num: disguised(v.Num)})
	}
	for _, b := range args {
		s.Args = append(s.Args, api.Bind{Name: b.Name, E: disguisedExpr(b.E)})
	}
	for _, kid := range kids {
		s.Kids = append(s.Kids, disguisedStep(kid))
	}
	return s
}

// disguisedClaim returns a claim equal to c that is not canonical.
func disguisedClaim(c api.Claim) api.Claim {
	d := api.Claim{Goal: disguisedExpr(c.Goal), Strict: c.Strict}
	for _, s := range c.Box {
		a := api.Interval{Lo: disguised(s.Iv.Lo), Hi: disguised(s.Iv.Hi), LoInf: s.Iv.LoInf, HiInf: s.Iv.HiInf}
		if a.LoInf { // what is not looked at may be anything
			a.Lo = disguised(rat("7/3"))
		}
		if a.HiInf {
			a.Hi = disguised(rat("-9/5"))
		}
		d.Box = append(d.Box, api.Side{Name: s.Name, Iv: a})
	}
	for _, k := range c.Conds {
		d.Conds = append(d.Conds, api.Cond{E: disguisedExpr(k.E), Strict: k.Strict})
	}
	return d
}

// endlessExpr returns an expression that contains itself.
func endlessExpr() api.Expr {
	e := api.Expr{Op: api.OpNeg, Kids: make([]api.Expr, 1)}
	e.Kids[0] = e
	return e
}

// endless returns a step with this number of kids each of which is the step itself.
func endless(kids int) api.Step {
	s := api.Step{Rule: api.RuleCut, Name: "x", Kids: make([]api.Step, kids)}
	for i := range s.Kids {
		s.Kids[i] = s
	}
	return s
}

// chain returns a proof of this depth with one kid at each step but the last one.
func chain(depth int) api.Step {
	s := st("range 8")
	for range depth - 1 {
		s = st("turn x 1/3", s)
	}
	return s
}

// bush returns a proof with this odd number of steps, of the least depth.
func bush(steps int) api.Step {
	if steps == 1 {
		return st("range 8")
	}
	left := (steps - 1) / 2
	if left%2 == 0 {
		left--
	}
	return st("cut x 1/3", bush(left), bush(steps-1-left))
}

// towerText returns the text of an expression of this depth, with as many nodes, in one variable.
func towerText(depth int, name string) string {
	return strings.Repeat("-", depth-1) + name
}

// fillerText returns the text of an expression with this number of nodes, of the least depth, in one variable.
func fillerText(nodes int, name string) string {
	switch nodes {
	case 1:
		return name
	case 2:
		return "-" + name
	}
	left := (nodes - 1) / 2
	return "(" + fillerText(left, name) + " + " + fillerText(nodes-1-left, name) + ")"
}

// badExprs are expressions that are not valid.
func badExprs() []api.Expr {
	return []api.Expr{{}, {Op: 16}, {Op: api.OpNum, Num: rat("2^2048")}, {Op: api.OpNum, Num: rat("-1")}, {Op: api.OpVar, Name: "in"}, {Op: api.OpPow, Arg: 33, Kids: []api.Expr{ex("x")}}, {Op: api.OpAdd, Kids: []api.Expr{ex("x")}}, endlessExpr(), {Op: api.OpNeg, Kids: []api.Expr{ex(towerText(30, "x"))}}}
}

// badClaims are claims that are not valid.
func badClaims() []api.Claim {
	good := cl("x > 0 for x in [0, 1] where x > 0")
	list := []api.Claim{{}}
	change := func(edit func(c *api.Claim)) {
		c := disguisedClaim(good)
		edit(&c)
		list = append(list, c)
	}
	change(func(c *api.Claim) { c.Goal = ex("y") })
	change(func(c *api.Claim) { c.Goal = endlessExpr() })
	change(func(c *api.Claim) { c.Conds[0].E = ex("y") })
	change(func(c *api.Claim) { c.Conds[0].E = api.Expr{} })
	change(func(c *api.Claim) { c.Conds = slices.Repeat(c.Conds, 13) })
	change(func(c *api.Claim) { c.Box[0].Name = "X" })
	change(func(c *api.Claim) { c.Box[0].Iv.Lo = rat("2") })
	change(func(c *api.Claim) { c.Box[0].Iv.Hi = rat("2^2048") })
	change(func(c *api.Claim) { c.Box = slices.Repeat(c.Box, 2) })
	return list
}

// cut returns a text without what is too long for a message.
func cut(text string) string {
	if len(text) > 300 {
		return text[:300] + ".."
	}
	return text
}

// TestHelpers checks that the tests' own texts of steps are read as they are written.
func TestHelpers(t *testing.T) {
	for _, s := range fullSteps() {
		if got := pf(lines(s, 0)); !identical(got, s) {
			t.Errorf("%s is read as %v", lines(s, 0), got)
		}
		if !uses(s.Rule, strings.Fields(forms[s.Rule].fields)[0]) || uses(s.Rule, "") {
			t.Errorf("rule %d does not use its fields", s.Rule)
		}
	}
}
