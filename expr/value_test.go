package expr_test

import (
	"math/big"
	"math/rand"
	"testing"

	"inequality/api"
	"inequality/expr"
)

// expectValue checks the result of Value: a number in math/big's notation, or "none".
func expectValue(t *testing.T, e api.Expr, at []api.Value, want string, wantErr api.Errno) {
	t.Helper()
	v, ok, err := expr.Value(e, at)
	wanted := api.Rat{}
	if want != "none" {
		wanted = rat(want)
	}
	if !sameRat(v, wanted) || ok != (want != "none") || err != wantErr {
		t.Errorf("Value(%s) is %v, %v, error %d; want %.60s, error %d", show(e), v, ok, err, want, wantErr)
	}
}

// P4.7: the values of all kinds, at x = 4, y = 1, z = -8.
func TestValue(t *testing.T) {
	at := point("4", "1", "-8")
	r := rand.New(rand.NewSource(10))
	for text, want := range map[string]string{
		"7/3": "7/3", "x": "4", "z": "-8", "pi": "none", "w": "none",
		"(neg x)": "-4", "(neg pi)": "none", "(neg z)": "8", "(neg 0)": "0",
		"(+ x 1/2)": "9/2", "(- x z)": "12", "(* x z)": "-32", "(/ x z)": "-1/2", "(/ 0 z)": "0", "(/ x 0)": "none", "(/ 0 0)": "none", "(/ x (- x 4))": "none",
		"(+ x w)": "none", "(+ w x)": "none", "(* 0 w)": "none", "(* w 0)": "none", "(- pi pi)": "none", "(/ 0 pi)": "none",
		"(^ 2 z)": "64", "(^ 3 z)": "-512", "(^ -1 z)": "-1/8", "(^ -2 z)": "1/64", "(^ 0 z)": "1", "(^ 0 0)": "1", "(^ -1 0)": "none", "(^ -32 (- x 4))": "none", "(^ 5 0)": "0", "(^ 0 pi)": "none", "(^ 0 w)": "none", "(^ 0 (/ 1 0))": "none", "(^ 32 2)": "4294967296",
		"(root 2 x)": "2", "(root 2 y)": "1", "(root 2 z)": "none", "(root 3 z)": "-2", "(root 3 x)": "none", "(root 2 2)": "none", "(root 4 16/81)": "2/3", "(root 2 0)": "0", "(root 8 256)": "2", "(root 2 pi)": "none",
		"(exp 0)": "1", "(exp x)": "none", "(log y)": "0", "(log x)": "none", "(log 0)": "none", "(sin 0)": "0", "(sin 1)": "none", "(cos 0)": "1", "(cos pi)": "none", "(tan 0)": "0", "(asin 0)": "0", "(asin 1)": "none", "(acos 1)": "0", "(acos 0)": "none", "(acos x)": "none", "(atan 0)": "0", "(atan 1)": "none", "(exp (log (cos (- x 4))))": "1",
		"(abs z)": "8", "(abs x)": "4", "(abs 0)": "0", "(abs w)": "none",
		"(min x z)": "-8", "(min z x)": "-8", "(min x x)": "4", "(max x z)": "4", "(max z x)": "4", "(min x pi)": "none", "(max w x)": "none", "(max 1/3 1/2)": "1/2", "(min 1/3 1/2)": "1/3",
		"(if x 2 3)": "2", "(if z 2 3)": "3", "(if 0 2 3)": "2", "(if (neg 0) 2 3)": "2", "(if (- x x) y z)": "1", "(if x 2 pi)": "2", "(if x 2 (/ 1 0))": "2", "(if z pi 3)": "3", "(if z (root 2 z) w)": "none", "(if x w 3)": "none", "(if pi 2 2)": "none", "(if w 2 2)": "none", "(if (/ 1 0) 1 1)": "none", "(if z w (if x y w))": "1",
		"(+ (root 2 x) (log y))": "2", "(* (+ x y) (- x z))": "60",
	} {
		expectValue(t, tree(text), at, want, api.OK)
		shuffled := []api.Value{at[2], at[0], at[1]}
		for i := range shuffled {
			shuffled[i].Num = disguisedRat(r, shuffled[i].Num)
		}
		expectValue(t, disguise(r, tree(text)), shuffled, want, api.OK)
	}
	expectValue(t, tree("x"), nil, "none", api.OK)
	expectValue(t, tree("2"), nil, "2", api.OK)
}

// P4.7: an operation whose result would be large has no value, also if a later one would be small.
func TestValueLarge(t *testing.T) {
	at := point("2^2047", "2^-2047", "-2^2047")
	for text, want := range map[string]string{
		"(+ x x)": "none", "(+ x (- x 1))": "2^2048-1", "(- z x)": "none", "(* x 2)": "none", "(* x 1)": "2^2047", "(* x y)": "1", "(/ y 2)": "none", "(/ x y)": "none", "(/ x x)": "1", "(- (+ x x) x)": "none", "(* 0 (+ x x))": "none", "(* 0 (* x x))": "none", "(min 1 (* x x))": "none",
		"(^ 2 x)": "none", "(^ -2 x)": "none", "(^ -1 x)": "2^-2047", "(^ -1 y)": "2^2047", "(^ 32 2^63)": "2^2016", "(^ 32 2^64)": "none", "(^ 1 x)": "2^2047", "(neg z)": "2^2047", "(abs z)": "2^2047", "(+ x z)": "0", "(if x 1 (* x x))": "1", "(if z 1 (* x x))": "none", "(if (* x x) 1 1)": "none", "(root 3 (^ 3 2^600))": "2^600", "(+ 2^2048-1 1)": "none", "(+ 2^2048-1 y)": "none",
	} {
		expectValue(t, tree(text), at, want, api.OK)
	}
}

// P4.1, P4.7: the list of values.
func TestValueList(t *testing.T) {
	large := rat("2^2048")
	for what, c := range map[string]struct {
		at   []api.Value
		want api.Errno
	}{
		"no name":                      {[]api.Value{{Name: ""}}, api.ErrName},
		"a reserved name":              {[]api.Value{{Name: "x"}, {Name: "if"}}, api.ErrName},
		"a name twice":                 {[]api.Value{{Name: "z"}, {Name: "x"}, {Name: "z"}}, api.ErrName},
		"a large number":               {[]api.Value{{Name: "x", Num: large}}, api.ErrSize},
		"an unused large number":       {[]api.Value{{Name: "x"}, {Name: "z", Num: large}}, api.ErrSize},
		"a large number before a name": {[]api.Value{{Name: "x", Num: large}, {Name: "Y"}}, api.ErrName},
		"a large number, a name twice": {[]api.Value{{Name: "x", Num: large}, {Name: "x", Num: large}}, api.ErrName},
		"a large 0":                    {[]api.Value{{Name: "y", Num: api.Rat{Den: append(make([]uint32, 256), 1)}}}, api.ErrSize},
	} {
		v, ok, err := expr.Value(tree("x"), c.at)
		if !sameRat(v, api.Rat{}) || ok || err != c.want {
			t.Errorf("%s: Value is %v, %v, error %d", what, v, ok, err)
		}
		if _, _, err := expr.Value(tree("(+ x)"), c.at); err != api.ErrNode {
			t.Errorf("%s, and an expression that is not valid: error %d", what, err)
		}
	}
}

// model returns the value of e in numbers of any size, nil if there is none, for the kinds without roots and calls.
func model(e api.Expr, at map[string]*big.Rat) *big.Rat {
	var kids []*big.Rat
	for i, kid := range e.Kids {
		if e.Op == api.OpIf && i > 0 && kids[0] != nil && (kids[0].Sign() >= 0) != (i == 1) {
			kids = append(kids, new(big.Rat))
			continue
		}
		v := model(kid, at)
		if v == nil {
			return nil
		}
		kids = append(kids, v)
	}
	switch e.Op {
	case api.OpNum:
		return value(e.Num)
	case api.OpVar:
		return at[e.Name]
	case api.OpNeg:
		return new(big.Rat).Neg(kids[0])
	case api.OpAdd:
		return new(big.Rat).Add(kids[0], kids[1])
	case api.OpSub:
		return new(big.Rat).Sub(kids[0], kids[1])
	case api.OpMul:
		return new(big.Rat).Mul(kids[0], kids[1])
	case api.OpDiv:
		if kids[1].Sign() == 0 {
			return nil
		}
		return new(big.Rat).Quo(kids[0], kids[1])
	case api.OpAbs:
		return new(big.Rat).Abs(kids[0])
	case api.OpIf:
		return new(big.Rat).Add(kids[1], kids[2]) // the one that is not taken is 0
	case api.OpMin, api.OpMax:
		if (e.Op == api.OpMin) == (kids[0].Cmp(kids[1]) < 0) {
			return kids[0]
		}
		return kids[1]
	case api.OpPow:
		v := power2(0)
		for range max(e.Arg, -e.Arg) {
			v.Mul(v, kids[0])
		}
		if e.Arg >= 0 {
			return v
		}
		if v.Sign() == 0 {
			return nil
		}
		return v.Inv(v)
	}
	return nil
}

// rational is a blend of the kinds whose values model knows.
var rational = blend{
	leaves: []string{"x", "y", "z", "x", "y", "0", "1", "2", "1/2", "7/3"},
	ops:    []string{"neg", "+", "-", "*", "/", "+", "-", "*", "/", "^ 0", "^ 1", "^ 2", "^ 3", "^ -1", "^ -2", "abs", "min", "max", "if"},
}

// P4.7: Value against the model.
func TestValueModel(t *testing.T) {
	found := 0
	rational.each(11, 3000, 6, func(r *rand.Rand, e api.Expr) {
		at := randomPoint(r)
		if !expr.Valid(e) {
			return
		}
		want := model(e, map[string]*big.Rat{"x": value(at[0].Num), "y": value(at[1].Num), "z": value(at[2].Num)})
		if want == nil {
			expectValue(t, e, at, "none", api.OK)
		} else if max(want.Num().BitLen(), want.Denom().BitLen()) < 500 {
			expectValue(t, e, at, want.RatString(), api.OK)
			found++
		}
	})
	if found < 1500 {
		t.Errorf("only %d values", found)
	}
}
