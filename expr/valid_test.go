package expr_test

import (
	"math/rand"
	"slices"
	"strings"
	"testing"

	"inequality/api"
	"inequality/expr"
)

// invalid returns expressions that are not valid, by what is wrong with them.
func invalid() map[string]api.Expr {
	long := make([]uint32, 4*api.MaxWords+1)
	long[0], long[4*api.MaxWords] = 1, 1
	x := tree("x")
	list := map[string]api.Expr{
		"zero":                     {},
		"a kind below OpNum":       {Op: -1},
		"a kind above OpIf":        {Op: 16, Kids: []api.Expr{x}},
		"the least kind":           {Op: -1 << 63},
		"a number below 0":         {Op: api.OpNum, Num: rat("-1/2")},
		"a large numerator":        {Op: api.OpNum, Num: rat("2^2048")},
		"a large denominator":      {Op: api.OpNum, Num: rat("2^-2048")},
		"1 in too many words":      {Op: api.OpNum, Num: api.Rat{Num: long, Den: long}},
		"a number with a name":     {Op: api.OpNum, Name: "x"},
		"a variable with a number": {Op: api.OpVar, Name: "x", Num: rat("1")},
		"a variable with -1/2":     {Op: api.OpVar, Name: "x", Num: rat("-1/2")},
		"a large number for pi":    {Op: api.OpPi, Num: rat("2^2048")},
		"pi with a number":         {Op: api.OpPi, Num: api.Rat{Num: []uint32{0, 0, 1}}},
		"a sum with a number":      {Op: api.OpAdd, Num: rat("1"), Kids: []api.Expr{x, x}},
		"pi with a name":           {Op: api.OpPi, Name: "pi"},
		"a sign with a name":       {Op: api.OpNeg, Name: "x", Kids: []api.Expr{x}},
		"a variable without name":  {Op: api.OpVar},
		"a reserved name":          {Op: api.OpVar, Name: "where"},
		"a name that is too long":  {Op: api.OpVar, Name: "abcdefghi"},
		"an endless tree":          endless(),
	}
	kids := []int{api.OpNum: 0, api.OpVar: 0, api.OpPi: 0, api.OpNeg: 1, api.OpAdd: 2, api.OpSub: 2, api.OpMul: 2, api.OpDiv: 2, api.OpPow: 1, api.OpRoot: 1, api.OpCall: 1, api.OpAbs: 1, api.OpMin: 2, api.OpMax: 2, api.OpIf: 3}
	for op := api.OpNum; op <= api.OpIf; op++ {
		e := least(op)
		for n := range 5 {
			if n != kids[op] {
				e.Kids = slices.Repeat([]api.Expr{x}, n)
				list[show(e)+" with a wrong number of kids"] = e
			}
		}
		e = least(op)
		for _, arg := range wrongArgs(op) {
			e.Arg = arg
			list[show(e)+" with a wrong Arg"] = e
		}
	}
	return list
}

// least returns a valid expression of a kind with as few nodes as possible.
func least(op int) api.Expr {
	texts := []string{api.OpNum: "0", api.OpVar: "x", api.OpPi: "pi", api.OpNeg: "(neg x)", api.OpAdd: "(+ x x)", api.OpSub: "(- x x)", api.OpMul: "(* x x)", api.OpDiv: "(/ x x)", api.OpPow: "(^ 2 x)", api.OpRoot: "(root 2 x)", api.OpCall: "(exp x)", api.OpAbs: "(abs x)", api.OpMin: "(min x x)", api.OpMax: "(max x x)", api.OpIf: "(if x x x)"}
	return tree(texts[op])
}

// wrongArgs returns values of Arg that a kind does not have.
func wrongArgs(op int) []int {
	switch op {
	case api.OpPow:
		return []int{-33, 33, -1 << 63, 1<<63 - 1}
	case api.OpRoot:
		return []int{-2, 0, 1, 9, 1 << 32}
	case api.OpCall:
		return []int{-1, 0, 9, 1<<32 + 1}
	}
	return []int{-1, 1, 2}
}

// endless returns an expression that contains itself.
func endless() api.Expr {
	e := api.Expr{Op: api.OpAdd, Kids: make([]api.Expr, 2)}
	e.Kids[0], e.Kids[1] = tree("x"), e
	return e
}

// P4.2: what is valid, and that a kid has to be valid as the whole has.
func TestValid(t *testing.T) {
	for op := api.OpNum; op <= api.OpIf; op++ {
		if e := least(op); !expr.Valid(e) {
			t.Errorf("%s is not valid", show(e))
		}
	}
	for _, text := range []string{"(^ -32 x)", "(^ 32 x)", "(^ 0 x)", "(root 8 x)", "(atan x)", "(log x)", "2^2048-1", "2^-2047"} {
		if !expr.Valid(tree(text)) {
			t.Errorf("%s is not valid", text)
		}
	}
	for what, e := range invalid() {
		if expr.Valid(e) {
			t.Errorf("%s is valid", what)
		}
		for _, text := range []string{"(neg @)", "(+ @ x)", "(+ x @)", "(* pi (exp (- 3 @)))", "(if @ x y)", "(if x @ y)", "(if x y @)", "(if x y (root 2 @))"} {
			if expr.Valid(put(text, e)) {
				t.Errorf("%s with @ being %s is valid", text, what)
			}
		}
	}
}

// P4.2: a number counts by what it denotes, and where none is needed, by whether that is 0.
func TestValidNumbers(t *testing.T) {
	zeros := make([]uint32, 4*api.MaxWords-1)
	long := append(slices.Clone(zeros), 1)
	many := make([]uint32, 5000)
	nothing := []api.Rat{{}, {Neg: true}, {Neg: true, Num: []uint32{0}, Den: []uint32{5}}, {Den: append(zeros, 7)}, {Den: []uint32{0}}, {Num: many, Den: many}}
	for _, x := range nothing {
		for op := api.OpNum; op <= api.OpIf; op++ {
			e := least(op)
			e.Num = x
			if !expr.Valid(e) {
				t.Errorf("%s with the number %v is not valid", show(e), x)
			}
		}
	}
	for _, x := range []api.Rat{{Num: long, Den: long}, {Num: []uint32{6, 0}, Den: []uint32{4}}, {Num: []uint32{1}, Den: many}, {Num: append([]uint32{3}, many...)}} {
		if !expr.Valid(api.Expr{Op: api.OpNum, Num: x}) {
			t.Errorf("the number %v is not valid", x)
		}
	}
	// What denotes 0 is 0 even where it is too long for a number.
	tooLong := api.Rat{Den: append(slices.Clone(long), 1)}
	if e := (api.Expr{Op: api.OpPi, Num: tooLong}); !expr.Valid(e) {
		t.Errorf("pi with 0 over 257 words is not valid")
	}
	if e := (api.Expr{Op: api.OpNum, Num: tooLong}); expr.Valid(e) {
		t.Errorf("0 over 257 words is valid")
	}
}

// P4.2: the limits of size and depth, together and each alone.
func TestValidLimits(t *testing.T) {
	for nodes, want := range map[int]bool{1: true, 2: true, 299: true, 300: true, 301: false, 302: false, 5000: false} {
		if e := filler(nodes); expr.Valid(e) != want || depth(e) > 14 {
			t.Errorf("Valid is %v for %d nodes", !want, nodes)
		}
	}
	for levels, want := range map[int]bool{29: true, 30: true, 31: false, 1000: false} {
		if expr.Valid(tower(levels)) != want {
			t.Errorf("Valid is %v for depth %d", !want, levels)
		}
	}
	deepRight := tree("x")
	for range 29 {
		deepRight = api.Expr{Op: api.OpIf, Kids: []api.Expr{tree("x"), tree("y"), deepRight}}
	}
	if !expr.Valid(deepRight) {
		t.Errorf("a last kid with depth 29 is not valid")
	}
	if expr.Valid(put("(if x x @)", deepRight)) {
		t.Errorf("a last kid with depth 30 is valid")
	}
	// A tree whose nodes share their kids has as many nodes as if they did not.
	shared := tree("x")
	for range 8 {
		shared = api.Expr{Op: api.OpMul, Kids: slices.Repeat([]api.Expr{shared}, 2)}
	}
	if expr.Valid(shared) {
		t.Errorf("511 nodes are valid")
	}
	for range 20 {
		shared = api.Expr{Op: api.OpMul, Kids: []api.Expr{shared, shared}}
	}
	if expr.Valid(shared) {
		t.Errorf("2^29 nodes are valid")
	}
	if expr.Valid(api.Expr{Op: api.OpAdd, Kids: make([]api.Expr, 1<<20)}) {
		t.Errorf("2^20 kids are valid")
	}
}

// P4.2: names.
func TestIsName(t *testing.T) {
	reserved := "exp log sin cos tan asin acos atan pi abs min max root sqrt if inf for in where"
	for _, s := range strings.Fields(reserved) {
		if expr.IsName(s) {
			t.Errorf("%q is a name", s)
		}
		if !expr.IsName(s + "0") {
			t.Errorf("%q is no name", s+"0")
		}
		if !expr.IsName("z" + s) {
			t.Errorf("%q is no name", "z"+s)
		}
	}
	for _, s := range []string{"x", "z", "a", "a0", "z9", "x1y2z3", "abcdefgh", "a1234567", "si", "pip", "e", "i", "fo"} {
		if !expr.IsName(s) {
			t.Errorf("%q is no name", s)
		}
	}
	for _, s := range []string{"", "X", "xY", "1", "1x", "abcdefghi", "a12345678", "x_1", "x ", " x", "x\x00", "é", "xé", "x'", "`", "{", "a{", "a/", "a:", "\xff", "x\n", strings.Repeat("x", 1<<20)} {
		if expr.IsName(s) {
			t.Errorf("%q is a name", s)
		}
	}
}

// P4.2: literals, in numbers of any form.
func TestLiteral(t *testing.T) {
	r := rand.New(rand.NewSource(1))
	for text, want := range map[string]string{"0": "0", "5": "5", "-5": "(neg 5)", "7/3": "7/3", "-7/3": "(neg 7/3)", "2^2048-1": "2^2048-1", "2^-2047": "2^-2047", "-2^2047": "(neg 2^2047)"} {
		e, err := expr.Literal(rat(text))
		expect(t, "Literal("+text+")", e, err, want, api.OK)
		if len(words(value(rat(text)).Num())) < 60 {
			e, err = expr.Literal(disguisedRat(r, rat(text)))
			expect(t, "Literal("+text+")", e, err, want, api.OK)
		}
	}
	for _, text := range []string{"2^2048", "-2^2048", "2^-2048"} {
		e, err := expr.Literal(rat(text))
		expect(t, "Literal("+text+")", e, err, "", api.ErrSize)
	}
	e, err := expr.Literal(api.Rat{Neg: true, Num: []uint32{0}, Den: []uint32{2}})
	expect(t, "Literal of minus 0", e, err, "0", api.OK)
}

// P4.2: Size and Vars.
func TestSizeVars(t *testing.T) {
	for text, want := range map[string]struct {
		size int
		vars string
	}{
		"3":                                 {1, ""},
		"x":                                 {1, "x"},
		"pi":                                {1, ""},
		"(+ x x)":                           {3, "x"},
		"(if y (exp x) (min x10 (neg x9)))": {8, "x x10 x9 y"},
		"(* b (* a (* ab (* a0 b))))":       {9, "a a0 ab b"},
	} {
		if n, err := expr.Size(tree(text)); n != want.size || err != api.OK {
			t.Errorf("Size(%s) is %d, error %d", text, n, err)
		}
		if names, err := expr.Vars(tree(text)); strings.Join(names, " ") != want.vars || err != api.OK {
			t.Errorf("Vars(%s) is %q, error %d", text, names, err)
		}
	}
	if n, err := expr.Size(filler(300)); n != 300 || err != api.OK {
		t.Errorf("Size of 300 nodes is %d, error %d", n, err)
	}
	everything.each(1, 300, 6, func(r *rand.Rand, e api.Expr) {
		if n, err := expr.Size(e); expr.Valid(e) && (n != size(e) || err != api.OK) {
			t.Errorf("Size(%s) is %d, error %d", show(e), n, err)
		}
	})
}

// P4.2: Equal looks at every field, and at what numbers denote.
func TestEqual(t *testing.T) {
	texts := []string{"0", "1", "1/2", "x", "y", "pi", "(neg x)", "(neg 1)", "(+ x y)", "(+ y x)", "(- x y)", "(* x y)", "(^ 2 x)", "(^ -2 x)", "(^ 2 y)", "(root 2 x)", "(root 3 x)", "(sin x)", "(cos x)", "(abs x)", "(min x y)", "(max x y)", "(if x y x)", "(if x x y)", "(+ x (+ y 1))", "(+ x (+ y 2))", "(+ (+ x y) 1)"}
	r := rand.New(rand.NewSource(2))
	for _, a := range texts {
		for _, b := range texts {
			for range 3 {
				got, err := expr.Equal(disguise(r, tree(a)), disguise(r, tree(b)))
				if got != (a == b) || err != api.OK {
					t.Errorf("Equal(%s, %s) is %v, error %d", a, b, got, err)
				}
			}
		}
	}
	everything.each(3, 300, 6, func(r *rand.Rand, e api.Expr) {
		if ok, err := expr.Equal(e, disguise(r, e)); expr.Valid(e) && (!ok || err != api.OK) {
			t.Errorf("%s is not equal to itself, error %d", show(e), err)
		}
	})
}
