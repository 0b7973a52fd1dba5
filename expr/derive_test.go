package expr_test

import (
	"math/rand"
	"strconv"
	"testing"

	"inequality/api"
	"inequality/expr"
)

// P4.9: which expressions are smooth.
func TestSmooth(t *testing.T) {
	for text, want := range map[string]bool{
		"x": true, "2": true, "pi": true, "(/ (root 3 (exp x)) (^ -2 (tan y)))": true, "(abs x)": false, "(min x y)": false, "(max x y)": false, "(if 1 2 3)": false,
		"(+ x (* y (neg (abs 1))))": false, "(exp (max 1 2))": false, "(^ 2 (root 2 (if x y y)))": false, "(- (- (- x 1) 1) 1)": true,
	} {
		if got, err := expr.Smooth(tree(text)); got != want || err != api.OK {
			t.Errorf("Smooth(%s) is %v, error %d", text, got, err)
		}
	}
}

// P4.9: the derivatives of all kinds.
func TestDerive(t *testing.T) {
	for text, want := range map[string]string{
		"5": "0", "pi": "0", "y": "0", "x": "1",
		"(neg x)": "(neg 1)", "(neg (^ 2 x))": "(neg (* 2 x))", "(neg y)": "0",
		"(+ x y)": "1", "(+ x x)": "2", "(+ y (sin x))": "(cos x)", "(- x y)": "1", "(- y x)": "(neg 1)", "(- (sin x) x)": "(- (cos x) 1)",
		"(* x y)": "y", "(* y x)": "y", "(* x x)": "(+ x x)", "(* (sin x) (exp x))": "(+ (* (cos x) (exp x)) (* (sin x) (exp x)))",
		"(/ x y)": "(/ y (^ 2 y))", "(/ y x)": "(/ (neg y) (^ 2 x))", "(/ 1 x)": "(/ (neg 1) (^ 2 x))", "(/ x x)": "(/ (- x x) (^ 2 x))", "(/ x 2)": "1/2", "(/ x (+ 1 1))": "1/2",
		"(^ 0 x)": "0", "(^ 1 x)": "1", "(^ 2 x)": "(* 2 x)", "(^ 3 x)": "(* 3 (^ 2 x))", "(^ -1 x)": "(neg (^ -2 x))", "(^ -2 x)": "(* (neg 2) (^ -3 x))", "(^ 2 (sin x))": "(* (* 2 (sin x)) (cos x))", "(^ 2 y)": "0", "(^ 32 x)": "(* 32 (^ 31 x))", "(^ -31 x)": "(* (neg 31) (^ -32 x))", "(^ -32 x)": "(* (neg 32) (/ (^ -32 x) x))", "(^ -32 y)": "0", "(^ -32 (* 2 x))": "(* (* (neg 32) (/ (^ -32 (* 2 x)) (* 2 x))) 2)",
		"(root 2 x)": "(/ 1 (* 2 (root 2 x)))", "(root 3 x)": "(/ 1 (* 3 (^ 2 (root 3 x))))", "(root 8 (^ 2 x))": "(/ (* 2 x) (* 8 (^ 7 (root 8 (^ 2 x)))))", "(root 2 y)": "0",
		"(exp x)": "(exp x)", "(exp (* 2 x))": "(* (exp (* 2 x)) 2)", "(exp y)": "0",
		"(log x)": "(/ 1 x)", "(log (^ 2 x))": "(/ (* 2 x) (^ 2 x))", "(log y)": "0",
		"(sin x)": "(cos x)", "(sin (^ 2 x))": "(* (cos (^ 2 x)) (* 2 x))", "(sin pi)": "0",
		"(cos x)": "(neg (sin x))", "(cos (neg x))": "(neg (* (sin (neg x)) (neg 1)))", "(cos y)": "0",
		"(tan x)": "(+ 1 (^ 2 (tan x)))", "(tan (* y x))": "(* (+ 1 (^ 2 (tan (* y x)))) y)", "(tan y)": "0",
		"(asin x)": "(/ 1 (root 2 (- 1 (^ 2 x))))", "(asin (neg x))": "(/ (neg 1) (root 2 (- 1 (^ 2 (neg x)))))", "(asin y)": "0",
		"(acos x)": "(neg (/ 1 (root 2 (- 1 (^ 2 x)))))", "(acos (* x y))": "(neg (/ y (root 2 (- 1 (^ 2 (* x y))))))", "(acos 0)": "0",
		"(atan x)": "(/ 1 (+ 1 (^ 2 x)))", "(atan (^ 2 x))": "(/ (* 2 x) (+ 1 (^ 2 (^ 2 x))))", "(atan y)": "0",
		"(* (^ 3 x) (sin x))":       "(+ (* (* 3 (^ 2 x)) (sin x)) (* (^ 3 x) (cos x)))",
		"(exp (+ (- y 0) (* 1 x)))": "(exp (+ y x))",
		"(* x (* 1 (+ y 0)))":       "y",
	} {
		e, err := expr.Derive(tree(text), "x")
		expect(t, "Derive("+text+")", e, err, want, api.OK)
		e, err = expr.Derive(disguise(rand.New(rand.NewSource(14)), tree(text)), "x")
		expect(t, "Derive("+text+") in other numbers", e, err, want, api.OK)
	}
	e, err := expr.Derive(tree("(* x y)"), "y")
	expect(t, "Derive(x * y, y)", e, err, "x", api.OK)
}

// P4.1, P4.9: the errors of Derive.
func TestDeriveErrors(t *testing.T) {
	for _, c := range []struct {
		tree, name string
		want       api.Errno
	}{{"(abs x)", "x", api.ErrSmooth}, {"(+ x (min y y))", "x", api.ErrSmooth}, {"(abs x)", "X", api.ErrName}, {"x", "pi", api.ErrName}, {"x", "", api.ErrName}, {"(if 1 2)", "", api.ErrNode}} {
		e, err := expr.Derive(tree(c.tree), c.name)
		expect(t, "Derive("+c.tree+", "+c.name+")", e, err, "", c.want)
	}
	// The derivative in x of what follows has the nodes or the levels that are named, and that of an expression that is not smooth is not formed.
	for _, c := range []struct {
		tree  string
		part  api.Expr
		nodes int
		depth int
		want  api.Errno
	}{
		{"(* x (* x @))", product(147), 299, 0, api.OK},
		{"(neg (* x (* x @)))", product(147), 300, 0, api.OK},
		{"(* x (* x @))", product(148), 301, 0, api.ErrLimit},
		{"(* (abs 1) (* x (* x @)))", product(148), 0, 0, api.ErrSmooth},
		{"(exp (* x @))", tower(27), 0, 30, api.OK},
		{"(exp (* x @))", tower(28), 0, 31, api.ErrLimit},
	} {
		e := put(c.tree, c.part)
		if !expr.Valid(e) {
			t.Fatalf("%s is not valid", show(e))
		}
		d, err := expr.Derive(e, "x")
		if err != c.want || err != api.OK && !isZero(d) || err == api.OK && (c.nodes > 0 && size(d) != c.nodes || c.depth > 0 && depth(d) != c.depth) {
			t.Errorf("Derive(%s): %d nodes, depth %d, error %d", show(e), size(d), depth(d), err)
		}
	}
}

// product returns an expression in the variable v with this number of nodes, of products and sines, that Simplify leaves as it is.
func product(nodes int) api.Expr {
	switch nodes {
	case 1:
		return tree("v")
	case 2:
		return tree("(sin v)")
	}
	return api.Expr{Op: api.OpMul, Kids: []api.Expr{product((nodes - 1) / 2), product(nodes - 1 - (nodes-1)/2)}}
}

// formula returns the tree of the derivative in x as P4.9 has it, before it is rewritten.
func formula(e api.Expr) string {
	var a, da, b, db string
	if len(e.Kids) > 0 {
		a, da = showAll(e.Kids[0]), formula(e.Kids[0])
	}
	if len(e.Kids) > 1 {
		b, db = showAll(e.Kids[1]), formula(e.Kids[1])
	}
	n := strconv.Itoa(e.Arg)
	less := strconv.Itoa(e.Arg - 1)
	lit := n
	if e.Arg < 0 {
		lit = "(neg " + n[1:] + ")"
	}
	switch e.Op {
	case api.OpVar:
		if e.Name == "x" {
			return "1"
		}
	case api.OpNeg:
		return "(neg " + da + ")"
	case api.OpAdd, api.OpSub:
		return "(" + kinds[e.Op] + " " + da + " " + db + ")"
	case api.OpMul:
		return "(+ (* " + da + " " + b + ") (* " + a + " " + db + "))"
	case api.OpDiv:
		return "(/ (- (* " + da + " " + b + ") (* " + a + " " + db + ")) (^ 2 " + b + "))"
	case api.OpPow:
		switch e.Arg {
		case 0:
			return "0"
		case -api.MaxPow:
			return "(* (* " + lit + " (/ (^ " + n + " " + a + ") " + a + ")) " + da + ")"
		}
		return "(* (* " + lit + " (^ " + less + " " + a + ")) " + da + ")"
	case api.OpRoot:
		return "(/ " + da + " (* " + n + " (^ " + less + " " + showAll(e) + ")))"
	case api.OpCall:
		return []string{
			api.FnExp:  "(* (exp " + a + ") " + da + ")",
			api.FnLog:  "(/ " + da + " " + a + ")",
			api.FnSin:  "(* (cos " + a + ") " + da + ")",
			api.FnCos:  "(neg (* (sin " + a + ") " + da + "))",
			api.FnTan:  "(* (+ 1 (^ 2 (tan " + a + "))) " + da + ")",
			api.FnAsin: "(/ " + da + " (root 2 (- 1 (^ 2 " + a + "))))",
			api.FnAcos: "(neg (/ " + da + " (root 2 (- 1 (^ 2 " + a + ")))))",
			api.FnAtan: "(/ " + da + " (+ 1 (^ 2 " + a + ")))",
		}[e.Arg]
	}
	return "0"
}

// smooth is everything that is smooth.
var smooth = blend{leaves: everything.leaves, ops: everything.ops[:len(everything.ops)-4]}

// P4.9: Derive is Simplify of the formula, where that is an expression that is valid.
func TestDeriveFormula(t *testing.T) {
	found := 0
	smooth.each(15, 6000, 6, func(r *rand.Rand, e api.Expr) {
		if !expr.Valid(e) {
			return
		}
		want, err := expr.Simplify(tree(formula(e)))
		if err != api.OK {
			return
		}
		found++
		got, err := expr.Derive(e, "x")
		expectTree(t, "Derive("+show(e)+")", got, err, func() api.Expr { return want }, api.OK)
	})
	if found < 3000 {
		t.Errorf("only %d derivatives", found)
	}
}

// P4.16: the derivative with respect to a variable that does not occur is 0.
func TestDeriveOther(t *testing.T) {
	smooth.each(16, 2000, 7, func(r *rand.Rand, e api.Expr) {
		if ok, err := expr.Smooth(e); err == api.OK && ok {
			d, err := expr.Derive(e, "w")
			expect(t, "Derive("+show(e)+", w)", d, err, "0", api.OK)
		}
	})
	d, err := expr.Derive(filler(300), "x")
	expect(t, "Derive of 300 nodes", d, err, "0", api.OK)
}

// polynomials is a blend of expressions that are polynomials in x, y and z.
var polynomials = blend{
	leaves: []string{"x", "y", "z", "x", "x", "0", "1", "2", "1/2", "7/3", "pi"},
	ops:    []string{"neg", "+", "-", "*", "+", "-", "*", "^ 0", "^ 1", "^ 2", "^ 3"},
}

// P4.16: the derivative of a polynomial is congruent to the formal derivative of its form.
func TestDerivePoly(t *testing.T) {
	found := 0
	polynomials.each(17, 2000, 5, func(r *rand.Rand, e api.Expr) {
		terms, err := expr.Poly(e)
		if err != api.OK {
			return
		}
		d, err := expr.Derive(e, "x")
		if err != api.OK {
			return
		}
		got, err := expr.Poly(d)
		if err != api.OK {
			return
		}
		found++
		want := formal(terms)
		if !sameTerms(got, want) {
			t.Errorf("Derive(%s) is %s with the form %s, want %s", show(e), show(d), showTerms(got), showTerms(want))
		}
	})
	if found < 1000 {
		t.Errorf("only %d polynomials", found)
	}
}

// formal returns the formal derivative of a form in x.
func formal(terms []api.Term) []api.Term {
	list := []api.Term{}
	for _, term := range terms {
		var factors []api.Factor
		exponent := 0
		for _, f := range term.Factors {
			if f.Atom == "x" {
				exponent = f.Exp
				f.Exp--
			}
			if f.Exp > 0 {
				factors = append(factors, f)
			}
		}
		if exponent > 0 {
			coef := value(term.Coef)
			list = append(list, api.Term{Coef: canonical(coef.Mul(coef, number(strconv.Itoa(exponent)))), Factors: factors})
		}
	}
	return sortedTerms(list)
}
