package expr_test

import (
	"math/big"
	"math/rand"
	"strconv"
	"testing"

	"inequality/api"
	"inequality/expr"
)

// expectPoly checks the result of Poly.
func expectPoly(t *testing.T, e api.Expr, want string, wantErr api.Errno) {
	t.Helper()
	got, err := expr.Poly(e)
	if err != wantErr || !sameTerms(got, terms(want)) {
		t.Errorf("Poly(%s) is %s, error %d; want %s, error %d", show(e), showTerms(got), err, want, wantErr)
	}
}

// P4.12: the forms of all kinds, and the order of terms and factors.
func TestPoly(t *testing.T) {
	for text, want := range map[string]string{
		"0": "", "5": "5", "2/3": "2/3", "x": "1 x", "pi": "1 pi", "(neg x)": "-1 x", "(neg 0)": "", "(neg (- x 2))": "2; -1 x",
		"(+ x y)": "1 x; 1 y", "(+ y x)": "1 x; 1 y", "(+ x x)": "2 x", "(+ x 1)": "1; 1 x", "(- x x)": "", "(- x y)": "1 x; -1 y", "(- (+ x 1) (+ x 2))": "-1", "(- 1 1)": "",
		"(* x y)": "1 x y", "(* y x)": "1 x y", "(* x x)": "1 x^2", "(* 2 (* x 1/2))": "1 x", "(* 0 x)": "", "(* (+ x 1) (- x 1))": "-1; 1 x^2", "(* (+ x y) (+ x y))": "2 x y; 1 x^2; 1 y^2",
		"(^ 0 x)": "1", "(^ 0 (- x x))": "1", "(^ 1 (+ x 1))": "1; 1 x", "(^ 2 (+ x 1))": "1; 2 x; 1 x^2", "(^ 3 (- x y))": "3 x y^2; -3 x^2 y; 1 x^3; -1 y^3", "(^ 2 (- x x))": "", "(^ 32 x)": "1 x^32", "(^ 5 2/3)": "32/243",
		"(^ -1 x)": "1 [1 / x]", "(^ -2 x)": "1 [1 / x]^2", "(^ -1 2)": "1/2", "(^ -3 (neg 2))": "-1/8", "(^ -2 (- 3 1))": "1/4", "(^ -1 (neg x))": "1 [1 / -x]", "(^ -2 (^ 2 x))": "1 [1 / x^2]^2", "(^ -1 0)": "1 [1 / 0]", "(^ -2 (- x x))": "1 [1 / (x - x)]^2", "(^ -1 (* 2 x))": "1 [1 / (2 * x)]",
		"(/ x y)": "1 [1 / y] x", "(/ 1 x)": "1 [1 / x]", "(/ x 2)": "1/2 x", "(/ x (- 3 1))": "1/2 x", "(/ x (neg 1/2))": "-2 x", "(/ 3 (* 2 2))": "3/4", "(/ (+ x 1) y)": "1 [1 / y]; 1 [1 / y] x", "(/ 0 x)": "", "(/ 0 0)": "", "(/ 1 0)": "1 [1 / 0]", "(/ 1 (- x x))": "1 [1 / (x - x)]", "(/ 2 (- 1 x))": "2 [1 / (1 - x)]", "(/ 1 (/ x y))": "1 [1 / (x / y)]", "(/ 1 (neg y))": "1 [1 / -y]", "(/ 1 (^ 2 x))": "1 [1 / x^2]", "(/ 1 pi)": "1 [1 / pi]", "(/ 1 (sin x))": "1 [1 / sin(x)]",
		// names cancel, other atoms do not
		"(/ x x)": "1", "(* (/ x y) y)": "1 x", "(* x (^ -1 x))": "1", "(* (^ 3 x) (^ -2 x))": "1 x", "(* (^ 2 x) (^ -5 x))": "1 [1 / x]^3", "(* (^ -2 x) (^ 2 x))": "1", "(/ (* x y) (* x y))": "1 [1 / (x * y)] x y", "(/ pi pi)": "1 [1 / pi] pi", "(/ (sin x) (sin x))": "1 [1 / sin(x)] [sin(x)]", "(* (- (/ x y) 1) y)": "1 x; -1 y", "(- (/ (* x y) y) x)": "", "(* x (^ -1 (neg x)))": "1 [1 / -x] x", "(^ 2 (/ (+ x 1) x))": "1; 2 [1 / x]; 1 [1 / x]^2", "(* (/ x y) (/ y x))": "1", "(* (/ x x10) x10)": "1 x",
		"(^ 2 (+ x (/ 1 x)))": "2; 1 [1 / x]^2; 1 x^2",
		// atoms
		"(sin (+ x y))": "1 [sin(x + y)]", "(root 2 x)": "1 [sqrt(x)]", "(^ 2 (root 2 x))": "1 [sqrt(x)]^2", "(root 3 (* x 2))": "1 [root(3, x * 2)]", "(abs (neg x))": "1 [abs(-x)]", "(min x y)": "1 [min(x, y)]", "(max 1 1)": "1 [max(1, 1)]", "(if x y z)": "1 [if(x, y, z)]", "(exp 0)": "1 [exp(0)]", "(sin (- x x))": "1 [sin(x - x)]", "(* (exp x) (exp x))": "1 [exp(x)]^2", "(- (exp (+ x 1)) (exp (+ 1 x)))": "-1 [exp(1 + x)]; 1 [exp(x + 1)]",
		// the order
		"(+ (+ (+ x2 x10) (* x x)) (+ x 7))":                                "7; 1 x; 1 x^2; 1 x10; 1 x2",
		"(+ (+ (* x z) (* x y)) (+ (* (^ 2 x) z) (* (^ 2 x) y)))":           "1 x y; 1 x z; 1 x^2 y; 1 x^2 z",
		"(+ (* x y) (+ x (+ y (* (* x y) z))))":                             "1 x; 1 x y; 1 x y z; 1 y",
		"(* z (* pi (* (abs x) (* (/ 1 y) (* a (* (root 2 b) (sin b)))))))": "1 [1 / y] a [abs(x)] pi [sin(b)] [sqrt(b)] z",
		"(+ (/ 1 x) (+ a (+ 1 (exp a))))":                                   "1; 1 [1 / x]; 1 a; 1 [exp(a)]",
	} {
		expectPoly(t, tree(text), want, api.OK)
		expectPoly(t, disguise(rand.New(rand.NewSource(22)), tree(text)), want, api.OK)
	}
}

// P4.12: the greatest number of terms and the greatest exponent, in the form of the expression and in those on the way.
func TestPolyLimits(t *testing.T) {
	// (a + b + c + 1)^n has (n+3)(n+2)(n+1)/6 terms: 165 for 8, 220 for 9. (a + b + 1)^18 has 190 terms.
	for text, want := range map[string]api.Errno{
		"(^ 8 (+ a (+ b (+ c 1))))":                               api.OK,
		"(^ 9 (+ a (+ b (+ c 1))))":                               api.ErrLimit,
		"(- (^ 9 (+ a (+ b (+ c 1)))) (^ 9 (+ a (+ b (+ c 1)))))": api.ErrLimit,
		"(* 0 (^ 9 (+ a (+ b (+ c 1)))))":                         api.ErrLimit,
		"(^ 0 (^ 9 (+ a (+ b (+ c 1)))))":                         api.ErrLimit,
		"(/ 0 (^ 9 (+ a (+ b (+ c 1)))))":                         api.ErrLimit,
		"(sin (^ 9 (+ a (+ b (+ c 1)))))":                         api.OK,
		"(^ 2 (^ 32 x))":                                          api.OK,
		"(* x (^ 2 (^ 32 x)))":                                    api.ErrLimit,
		"(^ 3 (^ 32 x))":                                          api.ErrLimit,
		"(^ 32 (^ 2 x))":                                          api.OK,
		"(^ 32 (^ 3 x))":                                          api.ErrLimit,
		"(* (^ 32 x) (* (^ 32 x) (^ -1 x)))":                      api.OK,
		"(* (* (^ 32 x) (^ 32 x)) (* x (^ -1 x)))":                api.OK,
		"(* (* (^ 32 x) (^ 32 x)) (^ -1 x))":                      api.OK,
		"(* (* x (* (^ 32 x) (^ 32 x))) (^ -1 x))":                api.ErrLimit,
		"(* (^ -32 x) (^ -32 x))":                                 api.OK,
		"(* (^ -32 x) (* (^ -32 x) (^ -1 x)))":                    api.ErrLimit,
		"(* (^ 32 (sin x)) (* (^ 32 (sin x)) (sin x)))":           api.ErrLimit,
		"(* 0 (^ 3 (^ 32 x)))":                                    api.ErrLimit,
		"(* (- x x) (* (^ 32 x) (* (^ 32 x) 1)))":                 api.OK,
		"(^ 0 (^ 3 (^ 32 x)))":                                    api.ErrLimit,
		"(exp (^ 3 (^ 32 x)))":                                    api.OK,
		"(/ 1 (^ 3 (^ 32 x)))":                                    api.ErrLimit,
		"(/ (^ 3 (^ 32 x)) 1)":                                    api.ErrLimit,
		"(* (+ (^ 32 x) (* (- 1 1) y)) (^ 32 x))":                 api.OK,
		"(- (* (^ 33 x) x) 1)":                                    api.ErrNode,
	} {
		got, err := expr.Poly(tree(text))
		if err != want || err != api.OK && len(got) > 0 || err == api.OK && len(got) > api.MaxTerms {
			t.Errorf("Poly(%s): %d terms, error %d, want %d", text, len(got), err, want)
		}
	}
	for count, want := range map[int]api.Errno{10: api.OK, 11: api.ErrLimit} {
		// (1 + a1 + .. + a19) * (1 + b1 + .. + b9) has 20 * 10 = 200 terms, with b10 it has 220.
		got, err := expr.Poly(api.Expr{Op: api.OpMul, Kids: []api.Expr{sum("a", 20), sum("b", count)}})
		if err != want || err == api.OK && len(got) != 200 {
			t.Errorf("Poly of 20 * %d terms: %d terms, error %d", count, len(got), err)
		}
	}
	// 201 terms, of which one is cancelled by a like term before they count.
	many := api.Expr{Op: api.OpMul, Kids: []api.Expr{sum("a", 20), sum("b", 10)}}
	for text, want := range map[string]api.Errno{"(- @ a1)": api.OK, "(- @ 1)": api.OK, "(+ @ (* a1 b1))": api.OK, "(+ @ (* a1 a1))": api.ErrLimit, "(- (* a1 a1) @)": api.ErrLimit, "(neg @)": api.OK, "(* @ x)": api.OK, "(* @ (+ x 1))": api.ErrLimit} {
		if got, err := expr.Poly(put(text, many)); err != want {
			t.Errorf("Poly(%s) with 200 terms for @: %d terms, error %d, want %d", text, len(got), err, want)
		}
	}
}

// sum returns a sum of this number of terms: 1 and variables of this name with numbers behind it.
func sum(name string, count int) api.Expr {
	list := []api.Expr{tree("1")}
	for i := 1; i < count; i++ {
		list = append(list, tree(name+strconv.Itoa(i)))
	}
	for len(list) > 1 { // so that the depth is small
		list = append(list[2:], api.Expr{Op: api.OpAdd, Kids: []api.Expr{list[0], list[1]}})
	}
	return list[0]
}

// P4.12: coefficients that are large, and the order of errors: of one form ErrLimit comes first, of several forms the first one counts.
func TestPolyErrors(t *testing.T) {
	const tooMany = "(^ 9 (+ a (+ b (+ c 1))))"
	for text, want := range map[string]api.Errno{
		"(* 2^2047 x)":                        api.OK,
		"(+ (* 2^2047 x) (* 2^2047 x))":       api.ErrSize,
		"(- (* 2^2047 x) (* 2^2047 x))":       api.OK,
		"(- (neg (* 2^2047 x)) (* 2^2047 x))": api.ErrSize,
		"(* 2^1024 2^1024)":                   api.ErrSize,
		"(* (* 2^1024 2^1024) 0)":             api.ErrSize,
		"(* 0 (* 2^1024 2^1024))":             api.ErrSize,
		"(* 2^1024 (* 2^1024 0))":             api.OK,
		"(^ 2 2^1024)":                        api.ErrSize,
		"(^ 32 2^63)":                         api.OK,
		"(^ 32 2^64)":                         api.ErrSize,
		"(^ -32 2^64)":                        api.ErrSize,
		"(^ -1 2^2047)":                       api.OK,
		"(/ 1 2^-2047)":                       api.OK,
		"(/ 2 2^-2047)":                       api.ErrSize,
		"(/ 1/2 2^2047)":                      api.ErrSize,
		"(^ 0 (* 2^1024 2^1024))":             api.ErrSize,
		"(sin (* 2^1024 2^1024))":             api.OK,
		"(/ 1 (* 2^1024 2^1024))":             api.ErrSize,
		"(* (+ (* 2^1024 x) 2^1024) (- (* 2^1023 x) 2^1023))": api.OK,
		"(* (+ (* 2^1024 x) 2^1024) (- (* 2^1024 x) 2^1024))": api.ErrSize,
		"(+ (* (* 2^1024 2^1024) x) " + tooMany + ")":         api.ErrSize,
		"(+ " + tooMany + " (* (* 2^1024 2^1024) x))":         api.ErrLimit,
		"(* 2^1024 (* 2^1024 " + tooMany + "))":               api.ErrLimit,
		"(^ 2 (* 2^1024 (^ 32 x)))":                           api.ErrSize,
		"(^ 3 (* 2^1023 (^ 32 x)))":                           api.ErrLimit,
		"(^ 3 (* 2^1024 (^ 32 x)))":                           api.ErrSize,
		"(* (* 2^1024 (^ 32 x)) (* 2^1024 (* x (^ 32 x))))":   api.ErrLimit,
		"(^ 9 (* 2^1024 (+ a (+ b (+ c 1)))))":                api.ErrSize,
		"(^ 9 (* 2^200 (+ a (+ b (+ c 1)))))":                 api.ErrLimit,
		"(/ (* 2^1024 2^1024) " + tooMany + ")":               api.ErrSize,
		"(/ " + tooMany + " (* 2^1024 2^1024))":               api.ErrLimit,
	} {
		got, err := expr.Poly(tree(text))
		if err != want || err != api.OK && len(got) > 0 {
			t.Errorf("Poly(%s) is %s, error %d, want %d", text, showTerms(got), err, want)
		}
	}
}

// P4.12: the greatest length of the text of an atom, which counts where the atom is formed.
func TestPolyTexts(t *testing.T) {
	for text, c := range map[string]struct {
		bytes int
		want  api.Errno
	}{
		"(abs @)":                       {3995, api.OK}, // abs(..)
		"(abs (neg @))":                 {3992, api.OK}, // abs(-(..))
		"(max @ x)":                     {3993, api.ErrLimit},
		"(* 0 (abs @))":                 {3996, api.ErrLimit},
		"(/ x @)":                       {3994, api.OK}, // 1 / (..)
		"(/ x (exp @))":                 {3991, api.OK},
		"(/ x (cos @))":                 {3992, api.ErrLimit},
		"(/ 0 @)":                       {3995, api.ErrLimit},
		"(/ x (^ -2 @))":                {3991, api.OK},
		"(^ -1 @)":                      {3994, api.OK},
		"(^ -1 (neg @))":                {3994, api.ErrLimit}, // 1 / -(..)
		"(+ 1 (^ -1 @))":                {3995, api.ErrLimit},
		"(^ 1 @)":                       {4300, api.OK},
		"(^ 0 @)":                       {4300, api.OK},
		"(^ 0 (cos @))":                 {3996, api.ErrLimit},
		"(/ 1 (/ 1 @))":                 {3988, api.OK},
		"(/ 2 (/ 1 @))":                 {3989, api.ErrLimit},
		"(/ 1 (/ x @))":                 {3995, api.ErrLimit},
		"(/ (sin @) (* 2^1024 2^1024))": {3996, api.ErrLimit},
		"(/ (* 2^1024 2^1024) (sin @))": {3996, api.ErrSize},
	} {
		e := put(text, longText(c.bytes))
		if got, err := expr.Poly(e); err != c.want || err != api.OK && len(got) > 0 {
			t.Errorf("Poly(%s) with %d bytes for @: %d terms, error %d, want %d", text, c.bytes, len(got), err, c.want)
		}
	}
}

// P4.12: a form has the value of its expression, with the values of its atoms, and what the promise says of its terms holds.
func TestPolyValue(t *testing.T) {
	found := 0
	mixed := blend{leaves: polynomials.leaves[:10], ops: append([]string{"/", "/", "^ -1", "^ -2", "abs", "min"}, polynomials.ops...)}
	mixed.each(23, 3000, 5, func(r *rand.Rand, e api.Expr) {
		list, err := expr.Poly(e)
		if err != api.OK {
			return
		}
		checkForm(t, e, list)
		at := point("17/3", "-5/7", "11/2")
		want := model(e, map[string]*big.Rat{"x": number("17/3"), "y": number("-5/7"), "z": number("11/2")})
		if want == nil || max(want.Num().BitLen(), want.Denom().BitLen()) > 300 {
			return
		}
		found++
		sum := new(big.Rat)
		for _, term := range list {
			product := value(term.Coef)
			for _, f := range term.Factors {
				v, ok, _ := expr.Value(parse(f.Atom), at)
				if !ok {
					return
				}
				for range f.Exp {
					product.Mul(product, value(v))
				}
			}
			sum.Add(sum, product)
		}
		if sum.Cmp(want) != 0 {
			t.Errorf("Poly(%s) is %s with the value %s, want %s", show(e), showTerms(list), sum.RatString(), want.RatString())
		}
	})
	if found < 1500 {
		t.Errorf("only %d forms", found)
	}
}

// checkForm checks what P4.12 says of the terms of a form.
func checkForm(t *testing.T, e api.Expr, list []api.Term) {
	t.Helper()
	for i, term := range list {
		exponents := map[string]int{}
		good := len(term.Coef.Num) > 0 && sameRat(term.Coef, canonical(value(term.Coef))) && (i == 0 || before(list[i-1].Factors, term.Factors))
		for j, f := range term.Factors {
			exponents[f.Atom] = f.Exp
			good = good && f.Exp >= 1 && f.Exp <= api.MaxDegree && (j == 0 || term.Factors[j-1].Atom < f.Atom)
		}
		for _, name := range []string{"x", "y", "z"} {
			good = good && (exponents[name] == 0 || exponents["1 / "+name] == 0)
		}
		if !good {
			t.Errorf("Poly(%s) is %s", show(e), showTerms(list))
		}
	}
}

// P4.13: which expressions are congruent.
func TestCongruent(t *testing.T) {
	for pair, want := range map[[2]string]bool{
		{"(^ 2 (+ x 1))", "(+ (+ (^ 2 x) (* 2 x)) 1)"}: true,
		{"(/ x y)", "(* x (^ -1 y))"}:                  true,
		{"(* (/ x y) y)", "x"}:                         true,
		{"(sin (+ x y))", "(sin (+ y x))"}:             false,
		{"x", "y"}:                                     false,
		{"(+ x 1)", "(+ x 2)"}:                         false,
		{"(+ x 1)", "x"}:                               false,
		{"x", "(+ x 1)"}:                               false,
		{"(* 2 x)", "x"}:                               false,
		{"(^ 2 x)", "(^ 3 x)"}:                         false,
		{"0", "(- x x)"}:                               true,
		{"0", "1"}:                                     false,
		{"(/ x 2)", "(* 1/2 x)"}:                       true,
		{"(/ 1 (* x y))", "(* (/ 1 x) (/ 1 y))"}:       false,
		{"(^ -2 x)", "(/ 1 (^ 2 x))"}:                  false,
		{"(^ -2 x)", "(* (/ 1 x) (/ 1 x))"}:            true,
		{"(^ 2 (root 2 x))", "x"}:                      false,
		{"(- (exp x) (neg (exp x)))", "(* 2 (exp x))"}: true,
		{"(* (+ x y) (- x y))", "(- (^ 2 x) (^ 2 y))"}: true,
		{"(neg (- x y))", "(- y x)"}:                   true,
		{"(/ 1 0)", "(^ -1 0)"}:                        true,
		{"(* 6/4 x)", "(+ x (/ x 2))"}:                 true,
	} {
		for _, c := range [][2]string{pair, {pair[1], pair[0]}} {
			r := rand.New(rand.NewSource(24))
			got, err := expr.Congruent(disguise(r, tree(c[0])), disguise(r, tree(c[1])))
			if got != want || err != api.OK {
				t.Errorf("Congruent(%s, %s) is %v, error %d", c[0], c[1], got, err)
			}
		}
	}
	const limit, large, bad = "(^ 3 (^ 32 x))", "(^ 2 2^1024)", "(root 9 x)"
	for pair, want := range map[[2]string]api.Errno{
		{limit, "x"}: api.ErrLimit, {"x", limit}: api.ErrLimit, {large, "x"}: api.ErrSize, {"x", large}: api.ErrSize, {limit, large}: api.ErrLimit, {large, limit}: api.ErrSize, {limit, limit}: api.ErrLimit,
		{bad, limit}: api.ErrNode, {limit, bad}: api.ErrNode, {large, bad}: api.ErrNode, {"x", bad}: api.ErrNode,
	} {
		if got, err := expr.Congruent(tree(pair[0]), tree(pair[1])); got || err != want {
			t.Errorf("Congruent(%s, %s) is %v, error %d, want %d", pair[0], pair[1], got, err, want)
		}
	}
}

// P4.17: Congruent is an equivalence relation, and Subst of literals keeps it.
func TestCongruentLaws(t *testing.T) {
	r := rand.New(rand.NewSource(25))
	small := blend{leaves: []string{"x", "y", "x", "1", "2", "0"}, ops: []string{"neg", "+", "-", "*", "^ 2", "^ 0"}}
	related := 0
	for range 60 {
		var list []api.Expr
		for range 12 {
			list = append(list, small.random(r, 3))
		}
		same := func(e, f api.Expr) bool {
			ok, err := expr.Congruent(e, f)
			if err != api.OK {
				t.Errorf("Congruent(%s, %s): error %d", show(e), show(f), err)
			}
			return ok
		}
		for _, a := range list {
			if !same(a, a) {
				t.Errorf("%s is not congruent to itself", show(a))
			}
			for _, b := range list {
				if !same(a, b) {
					continue
				}
				related++
				if !same(b, a) {
					t.Errorf("%s and %s", show(a), show(b))
				}
				for _, c := range list {
					if same(b, c) != same(a, c) {
						t.Errorf("%s, %s and %s", show(a), show(b), show(c))
					}
				}
				binds := []api.Bind{{Name: "x", E: tree("(neg 2/3)")}}
				x, _ := expr.Subst(a, binds)
				y, _ := expr.Subst(b, binds)
				if !same(x, y) {
					t.Errorf("%s and %s with a number for x", show(a), show(b))
				}
			}
		}
	}
	if related < 900 {
		t.Errorf("only %d pairs", related)
	}
}
