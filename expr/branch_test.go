package expr_test

import (
	"math/rand"
	"testing"

	"inequality/api"
	"inequality/expr"
)

// P4.10: each kind, and which of several comes first.
func TestBranch(t *testing.T) {
	for text, want := range map[string][3]string{
		"(abs x)":                                 {"x", "x", "(neg x)"},
		"(min x y)":                               {"(- y x)", "x", "y"},
		"(max x y)":                               {"(- x y)", "x", "y"},
		"(if x y z)":                              {"x", "y", "z"},
		"(abs (- x 1))":                           {"(- x 1)", "(- x 1)", "(neg (- x 1))"},
		"(abs (neg x))":                           {"(neg x)", "(neg x)", "(neg (neg x))"},
		"(abs 0)":                                 {"0", "0", "(neg 0)"},
		"(min 2/3 x)":                             {"(- x 2/3)", "2/3", "x"},
		"(+ x (abs (min x y)))":                   {"(- y x)", "(+ x (abs x))", "(+ x (abs y))"},
		"(+ (abs x) (abs y))":                     {"x", "(+ x (abs y))", "(+ (neg x) (abs y))"},
		"(+ (abs x) (abs x))":                     {"x", "(+ x (abs x))", "(+ (neg x) (abs x))"},
		"(+ (exp x) (abs y))":                     {"y", "(+ (exp x) y)", "(+ (exp x) (neg y))"},
		"(max (abs x) (min y z))":                 {"x", "(max x (min y z))", "(max (neg x) (min y z))"},
		"(max x (min y z))":                       {"(- z y)", "(max x y)", "(max x z)"},
		"(if (abs x) y z)":                        {"x", "(if x y z)", "(if (neg x) y z)"},
		"(if x (abs y) (min y z))":                {"x", "(abs y)", "(min y z)"},
		"(if (- x 1) (if y 1 2) (abs z))":         {"(- x 1)", "(if y 1 2)", "(abs z)"},
		"(if (if x y z) 1 2)":                     {"x", "(if y 1 2)", "(if z 1 2)"},
		"(if (if (abs x) y z) (abs 1) 2)":         {"x", "(if (if x y z) (abs 1) 2)", "(if (if (neg x) y z) (abs 1) 2)"},
		"(abs (if x y z))":                        {"x", "(abs y)", "(abs z)"},
		"(abs (if x (abs y) z))":                  {"x", "(abs (abs y))", "(abs z)"},
		"(* (if x (abs y) z) (abs x))":            {"x", "(* (abs y) (abs x))", "(* z (abs x))"},
		"(^ -3 (root 5 (sin (* 2 (max x 1/2)))))": {"(- x 1/2)", "(^ -3 (root 5 (sin (* 2 x))))", "(^ -3 (root 5 (sin (* 2 1/2))))"},
		"(min (+ x 0) (- 1 1))":                   {"(- (- 1 1) (+ x 0))", "(+ x 0)", "(- 1 1)"},
	} {
		for _, e := range []api.Expr{tree(text), disguise(rand.New(rand.NewSource(18)), tree(text))} {
			cond, yes, no, err := expr.Branch(e)
			expect(t, "the condition of "+text, cond, err, want[0], api.OK)
			expect(t, "the first case of "+text, yes, err, want[1], api.OK)
			expect(t, "the second case of "+text, no, err, want[2], api.OK)
		}
	}
}

// P4.10: an expression that is smooth, and one at the limits of size and depth.
func TestBranchLimits(t *testing.T) {
	for _, e := range []api.Expr{tree("x"), tree("(/ (exp x) (root 2 (neg y)))"), filler(300), tower(30)} {
		cond, yes, no, err := expr.Branch(e)
		if !isZero(cond) || !isZero(yes) || !isZero(no) || err != api.ErrSmooth {
			t.Errorf("Branch(%s) is %s, %s, %s, error %d", show(e), show(cond), show(yes), show(no), err)
		}
	}
	e := put("(min @ x)", filler(298))
	cond, yes, no, err := expr.Branch(e)
	expectTree(t, "the condition", cond, err, func() api.Expr { return put("(- x @)", filler(298)) }, api.OK)
	expectTree(t, "the first case", yes, err, func() api.Expr { return filler(298) }, api.OK)
	expect(t, "the second case", no, err, "x", api.OK)
	e = put("(abs @)", tower(29))
	cond, yes, no, err = expr.Branch(e)
	expectTree(t, "the condition", cond, err, func() api.Expr { return tower(29) }, api.OK)
	expectTree(t, "the first case", yes, err, func() api.Expr { return tower(29) }, api.OK)
	expectTree(t, "the second case", no, err, func() api.Expr { return put("(neg @)", tower(29)) }, api.OK)
}

// P4.10: where the condition has a value, the case that it chooses has the value of the whole. At last there is nothing left to resolve.
func TestBranchValue(t *testing.T) {
	cases := rational
	cases.ops = append([]string{"abs", "min", "max", "if", "abs"}, cases.ops...)
	found := 0
	cases.each(19, 2000, 6, func(r *rand.Rand, e api.Expr) {
		at := randomPoint(r)
		want, ok, err := expr.Value(e, at)
		if err != api.OK || !ok {
			return
		}
		for steps := 0; ; steps++ {
			cond, yes, no, err := expr.Branch(e)
			if smooth, _ := expr.Smooth(e); smooth != (err == api.ErrSmooth) {
				t.Errorf("Branch(%s): error %d", show(e), err)
			}
			if err != api.OK {
				break
			}
			found++
			if ok, err := expr.Smooth(cond); !ok || err != api.OK {
				t.Errorf("the condition %s of %s is not smooth", show(cond), show(e))
			}
			v, ok, _ := expr.Value(cond, at)
			if !ok {
				return
			}
			e = yes
			if v.Neg {
				e = no
			}
			expectValue(t, e, at, value(want).RatString(), api.OK)
			if steps == 300 {
				t.Fatalf("%s is not resolved", show(e))
			}
		}
	})
	if found < 1000 {
		t.Errorf("only %d steps", found)
	}
}
