package expr_test

import (
	"math/rand"
	"strings"
	"testing"

	"inequality/api"
	"inequality/expr"
)

// expectPrint checks the result of Print.
func expectPrint(t *testing.T, e api.Expr, want string, wantErr api.Errno) {
	t.Helper()
	text, err := expr.Print(e)
	if text != want || err != wantErr {
		t.Errorf("Print(%s) is %q, error %d; want %q, error %d", show(e), text, err, want, wantErr)
	}
}

// P4.5: the texts of all kinds.
func TestPrint(t *testing.T) {
	for text, want := range map[string]string{
		"7":                               "7",
		"7/3":                             "7/3",
		"0":                               "0",
		"x9":                              "x9",
		"pi":                              "pi",
		"(neg x)":                         "-x",
		"(+ x y)":                         "x + y",
		"(- x y)":                         "x - y",
		"(* x y)":                         "x * y",
		"(/ x y)":                         "x / y",
		"(/ 1 2)":                         "1 / 2",
		"(^ 2 x)":                         "x^2",
		"(^ 0 x)":                         "x^0",
		"(^ -32 x)":                       "x^-32",
		"(root 2 x)":                      "sqrt(x)",
		"(root 3 x)":                      "root(3, x)",
		"(root 8 (neg x))":                "root(8, -x)",
		"(exp x)":                         "exp(x)",
		"(log (sin (cos (tan x))))":       "log(sin(cos(tan(x))))",
		"(asin (acos (atan (+ x 1))))":    "asin(acos(atan(x + 1)))",
		"(abs (- x y))":                   "abs(x - y)",
		"(min x (max y z))":               "min(x, max(y, z))",
		"(if (- x 1) (+ y 1) (neg z))":    "if(x - 1, y + 1, -z)",
		"(* (+ x 1) (neg y))":             "(x + 1) * -y",
		"(^ 2 (neg x))":                   "(-x)^2",
		"(neg (^ 2 x))":                   "-x^2",
		"(^ 3 1/2)":                       "1/2^3",
		"(neg (neg (neg x)))":             "---x",
		"(- (- a b) (- c d))":             "a - b - (c - d)",
		"(/ (/ a b) (/ c d))":             "a / b / (c / d)",
		"(- (neg a) (neg b))":             "-a - -b",
		"(^ 2 (^ 3 (* a b)))":             "((a * b)^3)^2",
		"(/ (neg (* a b)) (root 2 pi))":   "-(a * b) / sqrt(pi)",
		"(+ (if a b c) (^ -1 (min a b)))": "if(a, b, c) + min(a, b)^-1",
	} {
		expectPrint(t, tree(text), want, api.OK)
		expectPrint(t, disguise(rand.New(rand.NewSource(1)), tree(text)), want, api.OK)
	}
}

// P4.5: which operand stands in parentheses at which place, for all pairs of kinds.
func TestPrintPlaces(t *testing.T) {
	operands := []struct {
		tree, text string
		level      int
	}{
		{"(+ a b)", "a + b", 1}, {"(- a b)", "a - b", 1}, {"(* a b)", "a * b", 2}, {"(/ a b)", "a / b", 2}, {"(neg a)", "-a", 3}, {"(^ 2 a)", "a^2", 4}, {"(^ -1 a)", "a^-1", 4},
		{"5", "5", 5}, {"1/2", "1/2", 5}, {"a", "a", 5}, {"pi", "pi", 5}, {"(root 2 a)", "sqrt(a)", 5}, {"(root 4 a)", "root(4, a)", 5}, {"(cos a)", "cos(a)", 5}, {"(abs a)", "abs(a)", 5}, {"(min a b)", "min(a, b)", 5}, {"(max a b)", "max(a, b)", 5}, {"(if a b c)", "if(a, b, c)", 5},
	}
	places := []struct {
		tree, before, after string
		level               int
	}{
		{"(+ @ x)", "", " + x", 1}, {"(+ x @)", "x + ", "", 2}, {"(- @ x)", "", " - x", 1}, {"(- x @)", "x - ", "", 2}, {"(* @ x)", "", " * x", 2}, {"(* x @)", "x * ", "", 3}, {"(/ @ x)", "", " / x", 2}, {"(/ x @)", "x / ", "", 3},
		{"(neg @)", "-", "", 3}, {"(^ 3 @)", "", "^3", 5}, {"(^ -3 @)", "", "^-3", 5}, {"(root 2 @)", "sqrt(", ")", 1}, {"(root 5 @)", "root(5, ", ")", 1}, {"(exp @)", "exp(", ")", 1}, {"(abs @)", "abs(", ")", 1},
		{"(min @ x)", "min(", ", x)", 1}, {"(min x @)", "min(x, ", ")", 1}, {"(max @ x)", "max(", ", x)", 1}, {"(max x @)", "max(x, ", ")", 1}, {"(if @ x y)", "if(", ", x, y)", 1}, {"(if x @ y)", "if(x, ", ", y)", 1}, {"(if x y @)", "if(x, y, ", ")", 1},
	}
	for _, place := range places {
		for _, operand := range operands {
			text := operand.text
			if operand.level < place.level {
				text = "(" + text + ")"
			}
			expectPrint(t, put(place.tree, tree(operand.tree)), place.before+text+place.after, api.OK)
		}
	}
}

// P4.5: the limit of the text.
func TestPrintLimit(t *testing.T) {
	for bytes, want := range map[int]api.Errno{3100: api.OK, 3999: api.OK, 4000: api.OK, 4001: api.ErrLimit, 4002: api.ErrLimit, 4500: api.ErrLimit} {
		e := longText(bytes)
		if !expr.Valid(e) {
			t.Fatalf("the expression for %d bytes is not valid", bytes)
		}
		text, err := expr.Print(e)
		if err != want || err == api.OK && len(text) != bytes || err != api.OK && text != "" {
			t.Errorf("Print of %d bytes is %d bytes, error %d", bytes, len(text), err)
		}
	}
}

// longText returns an expression whose text has this number of bytes, at least 2500.
func longText(bytes int) api.Expr {
	e := tree("x")
	for range 4 {
		e = put("(- @ 1"+strings.Repeat("0", 599)+")", e)
	}
	left := bytes - 1 - 4*603
	for left > 606 {
		e = put("(* 1"+strings.Repeat("2", 399)+" (abs @))", e) // with ` * abs(` and `)`
		left -= 408
	}
	return put("(- @ "+strings.Repeat("3", left-3)+")", e)
}

// P4.14: Parse of Print returns an equal expression, also with numbers that are as long as they may be.
func TestTexts(t *testing.T) {
	check := func(e api.Expr) {
		text, err := expr.Print(e)
		if err != api.OK {
			return
		}
		back, at, err := expr.Parse(text)
		expectTree(t, "Parse of "+text, back, err, func() api.Expr { return e }, api.OK)
		if at != 0 {
			t.Errorf("Parse of %s: offset %d", text, at)
		}
	}
	everything.each(6, 4000, 6, func(r *rand.Rand, e api.Expr) {
		if expr.Valid(e) {
			check(e)
		}
	})
	check(tree("(+ 2^2048-1 (* 2^-2047 x))"))
	half := number("2^2048-1")
	check(api.Expr{Op: api.OpNum, Num: canonical(half.Quo(half, number("2^2047-1")))})
	check(filler(300))
	check(tower(30))
	check(longText(4000))
}
