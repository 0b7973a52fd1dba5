package expr_test

import (
	"math/rand"
	"testing"

	"inequality/api"
	"inequality/expr"
)

// P4.8: each rule, its limits, and the order of the rules.
func TestSimplify(t *testing.T) {
	for text, want := range map[string]string{
		"x": "x", "2/3": "2/3", "pi": "pi",
		// OpNeg
		"(neg 3)": "(neg 3)", "(neg 0)": "0", "(neg (neg 3))": "3", "(neg (neg x))": "x", "(neg (neg (neg x)))": "(neg x)", "(neg (neg (neg 3)))": "(neg 3)", "(neg (+ x y))": "(neg (+ x y))", "(neg (- x y))": "(neg (- x y))", "(neg (- 1 3))": "2",
		// OpAdd
		"(+ 1 1/2)": "3/2", "(+ 1 (neg 3))": "(neg 2)", "(+ (neg 1) (neg 3))": "(neg 4)", "(+ 2 (neg 2))": "0", "(+ 0 x)": "x", "(+ x 0)": "x", "(+ (neg 0) x)": "x", "(+ x (neg 0))": "x", "(+ (- 1 1) x)": "x", "(+ x (neg y))": "(- x y)", "(+ x (neg 3))": "(- x 3)", "(+ (neg x) y)": "(+ (neg x) y)", "(+ 0 (neg x))": "(neg x)", "(+ (neg x) (neg y))": "(- (neg x) y)", "(+ x (neg (neg y)))": "(+ x y)", "(+ x (neg (neg (neg y))))": "(- x y)", "(+ x x)": "(+ x x)", "(+ 1 (+ 1 x))": "(+ 1 (+ 1 x))", "(+ (+ 1 1) x)": "(+ 2 x)",
		// OpSub
		"(- 1/2 1)": "(neg 1/2)", "(- 1 (neg 1))": "2", "(- x 0)": "x", "(- 0 x)": "(neg x)", "(- 0 (neg x))": "x", "(- 0 (neg (neg x)))": "(neg x)", "(- (neg 0) x)": "(neg x)", "(- x (neg y))": "(+ x y)", "(- x (neg 3))": "(+ x 3)", "(- x x)": "(- x x)", "(- (neg x) y)": "(- (neg x) y)", "(- (neg x) (neg y))": "(+ (neg x) y)", "(- 0 0)": "0", "(- (* 0 y) (- y y))": "(neg (- y y))",
		// OpMul
		"(* 2/3 3/2)": "1", "(* 2 (neg 3))": "(neg 6)", "(* (neg 2) (neg 3))": "6", "(* 0 x)": "0", "(* x 0)": "0", "(* (neg 0) x)": "0", "(* x (neg 0))": "0", "(* 1 x)": "x", "(* x 1)": "x", "(* (neg 1) x)": "(neg x)", "(* (neg 1) (neg x))": "x", "(* x (neg 1))": "(* x (neg 1))", "(* (- 1 2) (neg (neg x)))": "(neg x)", "(* x (neg y))": "(* x (neg y))", "(* (neg 1) (+ x y))": "(neg (+ x y))", "(* 2 (* 3 x))": "(* 2 (* 3 x))", "(* 0 (/ 1 0))": "0", "(* (^ 0 x) (^ 1 y))": "y",
		// OpDiv
		"(/ 1 2)": "1/2", "(/ (neg 4) 6)": "(neg 2/3)", "(/ 0 5)": "0", "(/ 0 x)": "0", "(/ (neg 0) x)": "0", "(/ 0 0)": "0", "(/ 1 0)": "(/ 1 0)", "(/ (neg 3) (neg 0))": "(/ (neg 3) 0)", "(/ x 1)": "x", "(/ x (neg 1))": "(/ x (neg 1))", "(/ 1 x)": "(/ 1 x)", "(/ x 0)": "(/ x 0)", "(/ x x)": "(/ x x)", "(/ x (/ 2 2))": "x", "(/ x 2)": "(/ x 2)",
		// OpPow
		"(^ 2 3/2)": "9/4", "(^ 3 (neg 2))": "(neg 8)", "(^ -2 (neg 2))": "1/4", "(^ -1 (neg 2/3))": "(neg 3/2)", "(^ 0 0)": "1", "(^ 5 0)": "0", "(^ -1 0)": "(^ -1 0)", "(^ -2 (- 1 1))": "(^ -2 0)", "(^ 0 x)": "1", "(^ 1 x)": "x", "(^ -1 x)": "(^ -1 x)", "(^ 2 x)": "(^ 2 x)", "(^ 0 (/ 1 0))": "1", "(^ 2 (^ 3 x))": "(^ 2 (^ 3 x))", "(^ 1 (neg (neg x)))": "x", "(^ 2 (neg x))": "(^ 2 (neg x))",
		// all others, whose kids are rewritten
		"(root 2 4)": "(root 2 4)", "(root 3 (+ 4 4))": "(root 3 8)", "(exp 0)": "(exp 0)", "(exp (- x 0))": "(exp x)", "(log 1)": "(log 1)", "(abs (neg 3))": "(abs (neg 3))", "(abs (+ 1 1))": "(abs 2)", "(min 1 2)": "(min 1 2)", "(max (+ 1 1) (* 0 x))": "(max 2 0)", "(if 1 x y)": "(if 1 x y)", "(if (+ 1 1) (* 1 x) (+ y 0))": "(if 2 x y)",
		// from the leaves to the root
		"(+ (* 0 x) (* 1 (+ y (neg (neg (* 2 3))))))": "(+ y 6)",
		"(neg (- 0 (* (neg 1) (neg x))))":             "x",
		"(/ (- (* 1 x) (* x 0)) (^ 2 (^ 0 x)))":       "x",
	} {
		e, err := expr.Simplify(tree(text))
		expect(t, "Simplify("+text+")", e, err, want, api.OK)
		e, err = expr.Simplify(disguise(rand.New(rand.NewSource(12)), tree(text)))
		expect(t, "Simplify("+text+") in other numbers", e, err, want, api.OK)
	}
}

// P4.8: a rule that would make a literal of a large number does not apply, and the next ones do.
func TestSimplifyLarge(t *testing.T) {
	for text, want := range map[string]string{
		"(+ 2^2047 2^2047)":             "(+ 2^2047 2^2047)",
		"(+ 2^2047 (- 2^2047 1))":       "2^2048-1",
		"(+ (neg 2^2047) 2^2047)":       "0",
		"(+ (neg 2^2047) (neg 2^2047))": "(- (neg 2^2047) 2^2047)",
		"(- (neg 2^2047) 2^2047)":       "(- (neg 2^2047) 2^2047)",
		"(- 2^2047 (neg 2^2047))":       "(+ 2^2047 2^2047)",
		"(* 2^1024 2^1024)":             "(* 2^1024 2^1024)",
		"(* 2^1024 2^1023)":             "2^2047",
		"(/ 2^1024 2^-1024)":            "(/ 2^1024 2^-1024)",
		"(/ 2^-2047 2)":                 "(/ 2^-2047 2)",
		"(^ 2 2^1024)":                  "(^ 2 2^1024)",
		"(^ -2 (neg 2^1024))":           "(^ -2 (neg 2^1024))",
		"(^ 32 2^64)":                   "(^ 32 2^64)",
		"(^ 32 2^63)":                   "2^2016",
		"(- (* 2^2000 2^2000) 0)":       "(* 2^2000 2^2000)",
		"(* 0 (* 2^2000 2^2000))":       "0",
		"(neg (+ 2^2047 2^2047))":       "(neg (+ 2^2047 2^2047))",
		"(- 0 (+ 2^2047 2^2047))":       "(neg (+ 2^2047 2^2047))",
	} {
		e, err := expr.Simplify(tree(text))
		expect(t, "Simplify("+text+")", e, err, want, api.OK)
	}
}

// P4.15: where there is a value, Simplify keeps it, and so does Subst of literals.
func TestSimplifyValue(t *testing.T) {
	found := 0
	blend := everything
	blend.ops = append([]string{"neg", "+", "-", "*", "/", "+", "-", "*", "/", "if", "abs"}, blend.ops...)
	blend.each(13, 6000, 5, func(r *rand.Rand, e api.Expr) {
		at := randomPoint(r)
		if !expr.Valid(e) {
			return
		}
		want, ok, _ := expr.Value(e, at)
		if !ok {
			return
		}
		found++
		s, err := expr.Simplify(e)
		if !expr.Valid(s) || err != api.OK || size(s) > size(e) || depth(s) > depth(e) {
			t.Errorf("Simplify(%s) is %s, error %d", show(e), show(s), err)
		}
		expectValue(t, s, at, value(want).RatString(), api.OK)
		x, _ := expr.Literal(at[0].Num)
		z, _ := expr.Literal(at[2].Num)
		s, err = expr.Subst(e, []api.Bind{{Name: "x", E: x}, {Name: "z", E: z}})
		if err == api.OK {
			expectValue(t, s, at[1:2], value(want).RatString(), api.OK)
		}
	})
	if found < 2000 {
		t.Errorf("only %d values", found)
	}
}

// P4.8: an expression at the limits of size and depth.
func TestSimplifyLimits(t *testing.T) {
	e, err := expr.Simplify(filler(300))
	expectTree(t, "Simplify of 300 nodes", e, err, func() api.Expr { return withoutNeg(filler(300)) }, api.OK)
	e, err = expr.Simplify(tower(30))
	expectTree(t, "Simplify of depth 30", e, err, func() api.Expr { return tower(30) }, api.OK)
}

// withoutNeg rewrites a filler as P4.8 says: its only rule is that of a sum whose right kid is an OpNeg.
func withoutNeg(e api.Expr) api.Expr {
	if e.Op != api.OpAdd {
		return e
	}
	a, b := withoutNeg(e.Kids[0]), withoutNeg(e.Kids[1])
	if b.Op == api.OpNeg {
		return api.Expr{Op: api.OpSub, Kids: []api.Expr{a, b.Kids[0]}}
	}
	return api.Expr{Op: api.OpAdd, Kids: []api.Expr{a, b}}
}
