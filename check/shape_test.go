package check_test

import (
	"math/rand"
	"slices"
	"strings"
	"testing"

	"inequality/api"
	"inequality/check"
)

// P7.1: the names of the rules, and other numbers and strings.
func TestNames(t *testing.T) {
	for rule, f := range forms {
		if got := check.Name(rule); got != f.name {
			t.Errorf("Name(%d) is %q", rule, got)
		}
		if got, ok := check.Find(f.name); got != rule || !ok {
			t.Errorf("Find(%q) is %d, %v", f.name, got, ok)
		}
		for _, other := range []string{f.name + " ", " " + f.name, strings.ToUpper(f.name), f.name[1:], f.name + "\x00", f.name + f.name} {
			if got, ok := check.Find(other); got != 0 || ok {
				t.Errorf("Find(%q) is %d, %v", other, got, ok)
			}
		}
	}
	for _, rule := range []int{0, -1, 22, 23, -1 << 63, 1<<63 - 1} {
		if got := check.Name(rule); got != "" {
			t.Errorf("Name(%d) is %q", rule, got)
		}
	}
	for _, name := range []string{"", "0", "1", "\xff", "natural", "exp"} {
		if got, ok := check.Find(name); got != 0 || ok {
			t.Errorf("Find(%q) is %d, %v", name, got, ok)
		}
	}
}

// expectShape checks Shape of a step as it is and below others, at every place.
func expectShape(t *testing.T, what string, s api.Step, want api.Errno) {
	t.Helper()
	for place, whole := range map[string]api.Step{"root": s, "only kid": st("turn x 0", s), "first kid": st("cut x 0", s, st("range 1")), "second kid": st("cut x 0", st("range 1"), s), "kid of a kid": st("via {x}", st("range 1"), st("fall y 1", s))} {
		if got := check.Shape(whole); got != want {
			t.Errorf("Shape of %s as the %s: %d, want %d", what, place, got, want)
		}
	}
}

// zeroes are values of fields that count as zero, however they are denoted.
func zeroes() []api.Step {
	return []api.Step{
		{}, {At: api.Rat{Neg: true}}, {At: api.Rat{Num: []uint32{0, 0}}}, {At: api.Rat{Den: []uint32{5}}}, {At: api.Rat{Den: make([]uint32, 1000)}}, {At: api.Rat{Num: make([]uint32, 1000), Den: []uint32{0, 7}}},
		{E: api.Expr{Num: api.Rat{Neg: true}}}, {E: api.Expr{Num: api.Rat{Num: []uint32{0, 0}, Den: []uint32{3}}}}, {E: api.Expr{Num: api.Rat{Den: slices.Repeat([]uint32{1}, 1000)}}}, {E: api.Expr{Kids: []api.Expr{}}},
		{Point: []api.Value{}, Args: []api.Bind{}},
	}
}

// nonzeroes are values of fields that do not count as zero, with the names of the fields.
func nonzeroes() map[string][]api.Step {
	return map[string][]api.Step{
		"Name":  {{Name: "x"}, {Name: " "}, {Name: "\x00"}},
		"Other": {{Other: "x"}, {Other: "\xff"}},
		"Entry": {{Entry: "x"}, {Entry: "Y"}},
		"At":    {{At: rat("1")}, {At: rat("-1/3")}, {At: rat("2^-2000")}, {At: api.Rat{Num: []uint32{0, 1}}}, {At: api.Rat{Den: append(make([]uint32, 256), 1)}}, {At: rat("2^2048")}},
		"K":     {{K: 1}, {K: -1}, {K: 1 << 62}},
		"N":     {{N: 1}, {N: -1}, {N: -1 << 63}},
		"Prec":  {{Prec: 1}, {Prec: -1}, {Prec: 200}},
		"Ver":   {{Ver: 1}, {Ver: -1}},
		"E":     {{E: ex("0")}, {E: api.Expr{Op: -1}}, {E: api.Expr{Arg: 2}}, {E: api.Expr{Num: rat("1")}}, {E: api.Expr{Num: rat("2^-3000")}}, {E: api.Expr{Name: "x"}}, {E: api.Expr{Kids: []api.Expr{{}}}}, {E: endlessExpr()}},
		"Point": {{Point: []api.Value{{}}}, {Point: []api.Value{{Name: "x", Num: rat("1")}}}},
		"Args":  {{Args: []api.Bind{{}}}, {Args: []api.Bind{{Name: "x", E: ex("1")}}}},
	}
}

// merge gives the fields with these names the values that another step has.
func merge(s, from api.Step, fields ...string) api.Step {
	for _, field := range fields {
		switch field {
		case "Name":
			s.Name = from.Name
		case "Other":
			s.Other = from.Other
		case "Entry":
			s.Entry = from.Entry
		case "At":
			s.At = from.At
		case "K":
			s.K = from.K
		case "N":
			s.N = from.N
		case "Prec":
			s.Prec = from.Prec
		case "Ver":
			s.Ver = from.Ver
		case "E":
			s.E = from.E
		case "Point":
			s.Point = from.Point
		case "Args":
			s.Args = from.Args
		}
	}
	return s
}

// P7.2: the fields that each rule uses, and no others, may be other than zero.
func TestShapeFields(t *testing.T) {
	for _, full := range fullSteps() {
		name := forms[full.Rule].name
		expectShape(t, name, full, api.OK)
		for _, field := range allFields {
			if uses(full.Rule, field) {
				continue
			}
			for _, zero := range zeroes() {
				expectShape(t, name+" with a zero "+field, merge(full, zero, field), api.OK)
			}
			for _, value := range nonzeroes()[field] {
				expectShape(t, name+" with "+field, merge(full, value, field), api.ErrRule)
			}
		}
	}
}

// P7.2: what is asked of the fields that a rule uses.
func TestShapeValues(t *testing.T) {
	large := []api.Rat{rat("2^2048"), rat("-2^2048"), rat("2^-2048"), {Den: append(make([]uint32, 256), 1)}, {Num: append(make([]uint32, 256), 1), Den: append(make([]uint32, 256), 1)}}
	small := []api.Rat{rat("2^2048-1"), rat("2^-2047"), {}, rat("-5"), {Den: append(make([]uint32, 255), 1)}}
	for _, full := range fullSteps() {
		name := forms[full.Rule].name
		for _, field := range []string{"Name", "Other", "Entry", "K", "N", "Prec", "Ver"} {
			if !uses(full.Rule, field) {
				continue
			}
			for _, value := range append(nonzeroes()[field], api.Step{}) {
				expectShape(t, name+" with any "+field, merge(full, value, field), api.OK)
			}
		}
		expectAt := func(x api.Rat, want api.Errno) {
			if uses(full.Rule, "At") {
				expectShape(t, name+" with a number At", merge(full, api.Step{At: x}, "At"), want)
			}
			if uses(full.Rule, "Point") {
				expectShape(t, name+" with a number in Point", merge(full, api.Step{Point: []api.Value{{Name: "x"}, {Name: "x", Num: x}}}, "Point"), want)
			}
		}
		for _, x := range large {
			expectAt(x, api.ErrRule)
		}
		for _, x := range small {
			expectAt(x, api.OK)
		}
		expectE := func(e api.Expr, want api.Errno) {
			if uses(full.Rule, "E") {
				expectShape(t, name+" with an expression E", merge(full, api.Step{E: e}, "E"), want)
			}
			if uses(full.Rule, "Args") {
				expectShape(t, name+" with an expression in Args", merge(full, api.Step{Args: []api.Bind{{Name: "x", E: ex("x")}, {Name: "x", E: e}}}, "Args"), want)
			}
		}
		for _, e := range badExprs() {
			expectE(e, api.ErrRule)
		}
		for _, e := range []string{"0", "x", fillerText(300, "x"), towerText(30, "x"), "log(-1) / 0"} {
			expectE(ex(e), api.OK)
		}
	}
}

// P7.2: lists have at most MaxSides elements, with any names.
func TestShapeLists(t *testing.T) {
	for n := range 9 {
		want := api.OK
		if n > api.MaxSides {
			want = api.ErrRule
		}
		expectShape(t, "zero with a list", api.Step{Rule: api.RuleZero, Point: slices.Repeat([]api.Value{{Name: "? "}}, n)}, want)
		s := st("lemma a 1 [] 2", st("range 1"))
		s.Args = slices.Repeat([]api.Bind{{E: ex("x")}}, n)
		expectShape(t, "lemma with a list", s, want)
	}
	expectShape(t, "zero with a million values", api.Step{Rule: api.RuleZero, Point: make([]api.Value, 1000000)}, api.ErrRule)
}

// P7.2: the number of kids of each rule, and numbers that are no rules.
func TestShapeKids(t *testing.T) {
	for _, full := range fullSteps() {
		for n := range 5 {
			s := full
			s.Kids = slices.Repeat([]api.Step{st("range 1")}, n)
			want := api.OK
			if n != forms[full.Rule].kids {
				want = api.ErrRule
			}
			expectShape(t, forms[full.Rule].name+" with kids", s, want)
		}
	}
	for _, rule := range []int{0, -1, 22, 23, -1 << 63, 1<<63 - 1} {
		for n := range 3 {
			expectShape(t, "no rule", api.Step{Rule: rule, Kids: slices.Repeat([]api.Step{st("range 1")}, n)}, api.ErrRule)
		}
	}
}

// count returns the number of steps of s and its depth.
func count(s api.Step) (steps, depth int) {
	steps = 1
	for _, kid := range s.Kids {
		n, d := count(kid)
		steps += n
		depth = max(depth, d)
	}
	return steps, depth + 1
}

// tree returns a random tree of steps of all rules, with fields and numbers of kids of any kind.
func tree(r *rand.Rand, depth int) api.Step {
	s := merge(fullSteps()[r.Intn(len(forms))], api.Step{K: r.Intn(3)}, "K")
	s.Kids = nil
	if depth > 1 {
		for range r.Intn(4) {
			s.Kids = append(s.Kids, tree(r, depth-1-r.Intn(2)))
		}
	}
	return s
}

// P7.2: Steps and Depth count steps of any kind.
func TestCounts(t *testing.T) {
	r := rand.New(rand.NewSource(1))
	for range 300 {
		s := tree(r, 6)
		steps, depth := count(s)
		if got := check.Steps(s); got != min(steps, api.MaxSteps+1) {
			t.Errorf("Steps of %d steps is %d", steps, got)
		}
		if got := check.Depth(s); got != depth {
			t.Errorf("Depth of a depth of %d is %d", depth, got)
		}
	}
	if steps, depth := check.Steps(api.Step{}), check.Depth(api.Step{}); steps != 1 || depth != 1 {
		t.Errorf("the zero step has %d steps and the depth %d", steps, depth)
	}
}

// P7.2: the greatest numbers of steps and depths, and ErrLimit ahead of ErrRule.
func TestShapeLimits(t *testing.T) {
	bad := api.Step{Rule: 99}
	deep := func(n int) api.Step { // the deepest path is the last one
		return st("cut x 0", st("via {x}", st("range 1"), st("range 1")), chain(n-1))
	}
	for what, c := range map[string]struct {
		s            api.Step
		steps, depth int
		want         api.Errno
	}{
		"one step":                     {st("range 1"), 1, 1, api.OK},
		"MaxLevels":                    {chain(40), 40, 40, api.OK},
		"MaxLevels + 1":                {chain(41), 41, 41, api.OK},
		"MaxLevels + 2":                {chain(42), 42, 42, api.ErrLimit},
		"MaxLevels + 3":                {chain(43), 43, 42, api.ErrLimit},
		"MaxLevels + 1 on the right":   {deep(41), 44, 41, api.OK},
		"MaxLevels + 2 on the right":   {deep(42), 45, 42, api.ErrLimit},
		"a very deep proof":            {chain(2500), 2001, 42, api.ErrLimit},
		"1999 steps":                   {bush(1999), 1999, 11, api.OK},
		"2000 steps":                   {st("turn x 0", bush(1999)), 2000, 12, api.OK},
		"2001 steps":                   {bush(2001), 2001, 11, api.ErrLimit},
		"2003 steps":                   {bush(2003), 2001, 11, api.ErrLimit},
		"a million steps":              {api.Step{Rule: 1, Kids: make([]api.Step, 999999)}, 2001, 2, api.ErrLimit},
		"steps that are no rules":      {api.Step{Kids: make([]api.Step, 1999)}, 2000, 2, api.ErrRule},
		"too many that are no rules":   {api.Step{Kids: make([]api.Step, 2000)}, 2001, 2, api.ErrLimit},
		"a bad step in a deep proof":   {st("cut x 0", bad, chain(41)), 43, 42, api.ErrLimit},
		"a bad step in a large proof":  {st("cut x 0", bad, bush(1999)), 2001, 12, api.ErrLimit},
		"a bad step in a right proof":  {st("cut x 0", bad, bush(1997)), 1999, 12, api.ErrRule},
		"a bad step behind a proof":    {st("cut x 0", bush(1997), bad), 1999, 12, api.ErrRule},
		"an endless step, no kid":      {endless(0), 1, 1, api.ErrRule},
		"an endless step, one kid":     {endless(1), 2001, 42, api.ErrLimit},
		"an endless step, two kids":    {endless(2), 2001, 42, api.ErrLimit},
		"a bad step with endless kids": {api.Step{Rule: 99, Kids: []api.Step{endless(2)}}, 2001, 42, api.ErrLimit},
		"an endless expression":        {api.Step{Rule: api.RuleVia, E: endlessExpr(), Kids: make([]api.Step, 2)}, 3, 2, api.ErrRule},
	} {
		if got := check.Steps(c.s); got != c.steps {
			t.Errorf("Steps of %s: %d, want %d", what, got, c.steps)
		}
		if got := check.Depth(c.s); got != c.depth {
			t.Errorf("Depth of %s: %d, want %d", what, got, c.depth)
		}
		if got := check.Shape(c.s); got != c.want {
			t.Errorf("Shape of %s: %d, want %d", what, got, c.want)
		}
	}
}
