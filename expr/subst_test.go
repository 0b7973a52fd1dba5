package expr_test

import (
	"math/rand"
	"slices"
	"strings"
	"testing"

	"inequality/api"
	"inequality/expr"
)

// bind returns the binds of a text such as `x=(+ y 1); y=2`.
func bind(text string) []api.Bind {
	var list []api.Bind
	for part := range strings.SplitSeq(text, ";") {
		if name, e, ok := strings.Cut(strings.TrimSpace(part), "="); ok {
			list = append(list, api.Bind{Name: name, E: tree(e)})
		}
	}
	return list
}

// P4.6: all variables are replaced at the same time, and nothing else is changed.
func TestSubst(t *testing.T) {
	for _, c := range [][3]string{
		{"x", "x=y", "y"},
		{"(+ x y)", "x=y; y=x", "(+ y x)"},
		{"(+ x y)", "x=(+ x y)", "(+ (+ x y) y)"},
		{"(* x (exp x))", "x=0", "(* 0 (exp 0))"},
		{"(* x y)", "z=3", "(* x y)"},
		{"(* x y)", "", "(* x y)"},
		{"(if x (abs x) (min y x))", "x=(- y z); y=pi", "(if (- y z) (abs (- y z)) (min pi (- y z)))"},
		{"(^ -2 (root 3 x))", "x=(neg 1/2)", "(^ -2 (root 3 (neg 1/2)))"},
		{"(+ (- 1 1) (neg (neg x)))", "x=(* 1 x)", "(+ (- 1 1) (neg (neg (* 1 x))))"},
		{"(+ x1 (+ x x2))", "x=1; x2=2", "(+ x1 (+ 1 2))"},
		{"pi", "x=1", "pi"},
	} {
		e, err := expr.Subst(tree(c[0]), bind(c[1]))
		expect(t, "Subst("+c[0]+", "+c[1]+")", e, err, c[2], api.OK)
		r := rand.New(rand.NewSource(7))
		binds := bind(c[1])
		for i := range binds {
			binds[i].E = disguise(r, binds[i].E)
		}
		e, err = expr.Subst(disguise(r, tree(c[0])), binds)
		expect(t, "Subst of numbers that are not canonical", e, err, c[2], api.OK)
	}
}

// P4.6: the limits of the result.
func TestSubstLimits(t *testing.T) {
	for _, c := range []struct {
		tree  string
		nodes int // of the expression that takes the place of @
		want  api.Errno
	}{{"(+ @ (- @ @))", 99, api.OK}, {"(neg (+ @ (- @ @)))", 99, api.OK}, {"(neg (neg (+ @ (- @ @))))", 99, api.ErrLimit}, {"(+ @ (- @ @))", 100, api.ErrLimit}, {"@", 300, api.OK}, {"(neg @)", 300, api.ErrLimit}} {
		e, err := expr.Subst(put(c.tree, tree("x")), []api.Bind{{Name: "x", E: filler(c.nodes)}})
		expectTree(t, "Subst into "+c.tree, e, err, func() api.Expr { return put(c.tree, filler(c.nodes)) }, c.want)
	}
	for levels, want := range map[int]api.Errno{28: api.OK, 29: api.ErrLimit, 30: api.ErrLimit} {
		e, err := expr.Subst(tree("(neg (* y x))"), []api.Bind{{Name: "x", E: tower(levels)}})
		expectTree(t, "Subst", e, err, func() api.Expr { return put("(neg (* y @))", tower(levels)) }, want)
	}
	wide := filler(300)
	e, err := expr.Subst(wide, []api.Bind{{Name: "v", E: wide}, {Name: "w", E: wide}})
	expect(t, "Subst into 300 nodes of 300 nodes", e, err, "", api.ErrLimit)
	// What is not put in does not count.
	e, err = expr.Subst(tree("y"), []api.Bind{{Name: "v", E: wide}})
	expect(t, "Subst", e, err, "y", api.OK)
}

// P4.6: Swap, also of variables that do not occur.
func TestSwap(t *testing.T) {
	for _, c := range [][4]string{
		{"(- x y)", "x", "y", "(- y x)"},
		{"(- x y)", "y", "x", "(- y x)"},
		{"(- x y)", "x", "z", "(- z y)"},
		{"(- x y)", "z", "x", "(- z y)"},
		{"(- x y)", "x", "x", "(- x y)"},
		{"(- x y)", "a", "b", "(- x y)"},
		{"(if x (+ y 2/3) (^ -3 x))", "x", "y", "(if y (+ x 2/3) (^ -3 y))"},
	} {
		e, err := expr.Swap(disguise(rand.New(rand.NewSource(8)), tree(c[0])), c[1], c[2])
		expect(t, "Swap("+c[0]+", "+c[1]+", "+c[2]+")", e, err, c[3], api.OK)
	}
	e, err := expr.Swap(filler(300), "v", "x")
	if err != api.OK || size(e) != 300 {
		t.Errorf("Swap in 300 nodes: %d nodes, error %d", size(e), err)
	}
	everything.each(9, 500, 5, func(r *rand.Rand, e api.Expr) {
		if !expr.Valid(e) {
			return
		}
		once, _ := expr.Swap(e, "x", "y")
		twice, err := expr.Swap(once, "y", "x")
		expectTree(t, "Swap of Swap", twice, err, func() api.Expr { return e }, api.OK)
		subst, err := expr.Subst(e, []api.Bind{{Name: "y", E: tree("x")}, {Name: "x", E: tree("y")}})
		expectTree(t, "Subst of both", subst, err, func() api.Expr { return once }, api.OK)
	})
}

// P4.1: the names of binds and of Swap.
func TestSubstNames(t *testing.T) {
	one := tree("1")
	for what, binds := range map[string][]api.Bind{
		"no name":         {{Name: "", E: one}},
		"a reserved name": {{Name: "x", E: one}, {Name: "in", E: one}},
		"a long name":     {{Name: "abcdefghi", E: one}},
		"a name twice":    {{Name: "x", E: one}, {Name: "y", E: one}, {Name: "x", E: one}},
		"an unused twice": {{Name: "z", E: one}, {Name: "z", E: one}},
	} {
		e, err := expr.Subst(tree("(+ x y)"), binds)
		expect(t, what, e, err, "", api.ErrName)
		// A kid that is not valid comes first, wherever it stands.
		for i := range len(binds) + 1 {
			e, err = expr.Subst(tree("(+ x y)"), slices.Insert(slices.Clone(binds), i, api.Bind{Name: "q", E: tree("(exp (+ x))")}))
			expect(t, what, e, err, "", api.ErrNode)
		}
		// A result that is too large comes later.
		e, err = expr.Subst(filler(300), append([]api.Bind{{Name: "v", E: filler(3)}}, binds...))
		expect(t, what, e, err, "", api.ErrName)
	}
	for _, names := range [][2]string{{"", "x"}, {"x", ""}, {"X", "x"}, {"x", "pi"}, {"pi", "pi"}, {"abcdefghi", "x"}} {
		e, err := expr.Swap(tree("x"), names[0], names[1])
		expect(t, "Swap of "+names[0]+" and "+names[1], e, err, "", api.ErrName)
	}
}
