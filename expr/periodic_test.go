package expr_test

import (
	"math"
	"math/rand"
	"testing"

	"inequality/api"
	"inequality/expr"
)

// P4.11: what is seen to be periodic in x.
func TestPeriodic(t *testing.T) {
	for text, want := range map[string]bool{
		"x": false, "y": true, "3": true, "pi": true, "(exp y)": true, "(exp x)": false, "(neg x)": false,
		"(sin x)": true, "(cos x)": true, "(tan x)": true, "(asin x)": false, "(acos x)": false, "(atan x)": false, "(log x)": false, "(abs x)": false, "(root 2 x)": false, "(^ 2 x)": false, "(^ 0 x)": false, "(^ 3 x)": false, "(^ 4 x)": false, "(^ 5 x)": false, "(root 3 x)": false, "(root 4 x)": false, "(root 5 x)": false,
		"(sin (neg x))": true, "(sin (neg (neg x)))": true,
		"(sin (+ x y))": true, "(sin (+ y x))": true, "(sin (- y x))": true, "(sin (- x pi))": true, "(sin (+ x x))": true, "(sin (- x x))": true, "(sin (+ x (exp y)))": true, "(sin (+ x (exp x)))": false, "(sin (+ (exp x) x))": false, "(sin (- (^ 2 y) (- 1 x)))": true, "(sin (+ y z))": true, "(sin (+ (+ y 1) (+ z x)))": true,
		"(sin (* 2 x))": true, "(sin (* x 2))": true, "(sin (* (neg 3) x))": true, "(sin (* x (neg 3)))": true, "(sin (* 0 x))": true, "(sin (* 4/2 x))": true, "(sin (* 1/2 x))": false, "(sin (* x 3/2))": false, "(sin (* (neg 1/2) x))": false, "(sin (* 2 (* 3 x)))": true, "(sin (* 2 (* 1/2 x)))": false, "(sin (* 1/2 (* 2 x)))": false,
		"(sin (* (+ 1 1) x))": false, "(sin (* (neg (neg 2)) x))": false, "(sin (* y x))": false, "(sin (* x x))": false, "(sin (* pi x))": false, "(sin (* 2 (+ x y)))": true, "(sin (* (+ x 1) 2))": true, "(sin (* 2 y))": true, "(sin (* 1/2 y))": true,
		"(sin (/ x 1))": false, "(sin (/ x 2))": false, "(sin (^ 1 x))": false, "(sin (^ 2 x))": false, "(sin (abs x))": false, "(sin (min x x))": false, "(sin (if y x x))": false, "(cos (root 2 x))": false, "(sin (exp x))": false,
		"(sin (cos x))": true, "(sin (sin (sin x)))": true, "(sin (* (cos x) y))": true, "(sin (* (cos x) x))": false, "(sin (+ x (cos x)))": false, "(sin (+ (cos x) y))": true, "(sin (sin (* 1/2 x)))": false, "(sin (sin (exp x)))": false, "(sin (exp (cos x)))": true, "(sin (^ 2 (tan x)))": true, "(sin (+ (cos x) (sin (* 1/2 x))))": false,
		"(* (sin (+ (* 2 x) y)) z)": true, "(+ (sin x) x)": false, "(exp (sin x))": true, "(if (sin x) (cos x) (tan x))": true, "(if (sin x) (cos x) x)": false, "(if x 1 2)": false, "(/ 1 (+ 2 (cos x)))": true, "(min (sin x) (abs (cos x)))": true, "(min (sin x) (abs x))": false, "(asin (sin x))": true, "(+ (sin x) (cos (/ x 2)))": false, "(sin (asin x))": false,
	} {
		for _, e := range []api.Expr{tree(text), disguise(rand.New(rand.NewSource(20)), tree(text))} {
			got, err := expr.Periodic(e, "x")
			if got != want || err != api.OK {
				t.Errorf("Periodic(%s, x) is %v, error %d", text, got, err)
			}
		}
	}
	for _, c := range []struct {
		tree, name string
		want       api.Errno
	}{{"x", "", api.ErrName}, {"(sin x)", "sin", api.ErrName}, {"y", "X", api.ErrName}, {"(sin)", "", api.ErrNode}} {
		if got, err := expr.Periodic(tree(c.tree), c.name); got || err != c.want {
			t.Errorf("Periodic(%s, %q) is %v, error %d", c.tree, c.name, got, err)
		}
	}
}

// float returns an approximation of the value of e.
func float(e api.Expr, at map[string]float64) float64 {
	var kids []float64
	for _, kid := range e.Kids {
		kids = append(kids, float(kid, at))
	}
	switch e.Op {
	case api.OpNum:
		v, _ := value(e.Num).Float64()
		return v
	case api.OpVar:
		return at[e.Name]
	case api.OpPi:
		return math.Pi
	case api.OpNeg:
		return -kids[0]
	case api.OpAdd:
		return kids[0] + kids[1]
	case api.OpSub:
		return kids[0] - kids[1]
	case api.OpMul:
		return kids[0] * kids[1]
	case api.OpAbs:
		return math.Abs(kids[0])
	case api.OpMin:
		return min(kids[0], kids[1])
	}
	return []func(float64) float64{api.FnExp: math.Exp, api.FnSin: math.Sin, api.FnCos: math.Cos, api.FnAtan: math.Atan}[e.Arg](kids[0])
}

// P4.11: what is seen to be periodic is periodic.
func TestPeriodicValue(t *testing.T) {
	waves := blend{leaves: []string{"x", "x", "y", "2", "pi", "1/2"}, ops: []string{"sin", "cos", "sin", "cos", "neg", "+", "-", "*", "*", "atan", "abs", "min"}}
	found := 0
	waves.each(21, 3000, 6, func(r *rand.Rand, e api.Expr) {
		names, _ := expr.Vars(e)
		ok, err := expr.Periodic(e, "x")
		if err != api.OK || !ok || len(names) == 0 || names[0] != "x" {
			return
		}
		found++
		x, y := 3*r.Float64(), 3*r.Float64()
		a, b := float(e, map[string]float64{"x": x, "y": y}), float(e, map[string]float64{"x": x + 2*math.Pi, "y": y})
		if math.Abs(a-b) > 1e-6*max(1, math.Abs(a)) {
			t.Errorf("%s has the values %g and %g", show(e), a, b)
		}
	})
	if found < 300 {
		t.Errorf("only %d periodic expressions", found)
	}
}
