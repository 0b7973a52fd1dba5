package enclose_test

import (
	"fmt"
	"reflect"
	"slices"
	"strings"
	"testing"

	"inequality/api"
	"inequality/enclose"
	"inequality/expr"
)

// caller is a call of a function that encloses an expression over a box.
type caller struct {
	name string
	call func(e api.Expr, b []api.Side, p int) (any, api.Errno)
}

// asAny makes a caller of a function.
func asAny[T any](name string, f func(e api.Expr, b []api.Side, p int) (T, api.Errno)) caller {
	return caller{name, func(e api.Expr, b []api.Side, p int) (any, api.Errno) {
		result, err := f(e, b, p)
		return result, err
	}}
}

// callers returns the functions that enclose an expression over a box.
func callers() []caller {
	return []caller{asAny("Range", enclose.Range), asAny("Gradient", enclose.Gradient), asAny("Hessian", enclose.Hessian), asAny("Mean", enclose.Mean), asAny("Taylor", enclose.Taylor), asAny("Line", enclose.Line), asAny("Best", enclose.Best)}
}

// isZero reports whether a result is a zero value. An empty list and nil are the same.
func isZero(x any) bool {
	v := reflect.ValueOf(x)
	return v.IsZero() || v.Kind() == reflect.Slice && v.Len() == 0
}

// product returns the product of n sines. Its derivatives are large.
func product(n int) string {
	return strings.Repeat("sin(x) * ", n-1) + "sin(x)"
}

// faults are the errors that a call can have, in the order in which they count.
var faults = []string{"node", "box", "precision", "variable", "smooth", "edge", "first", "second", "center", "domain"}

// faultErrors are the errors of the faults that each function looks at, in its order.
func faultErrors(name string) map[string]api.Errno {
	all := map[string]api.Errno{"node": api.ErrNode, "box": api.ErrBox, "precision": api.ErrArg, "variable": api.ErrVar, "smooth": api.ErrSmooth, "edge": api.ErrEdge, "first": api.ErrLimit, "second": api.ErrLimit, "center": api.ErrSize, "domain": api.ErrDomain}
	leave := map[string][]string{"Range": {"smooth", "edge", "first", "second", "center"}, "Best": {"smooth", "edge", "first", "second", "center"}, "Gradient": {"edge", "second", "center"}, "Hessian": {"edge", "center"}, "Mean": {"second"}, "Taylor": nil, "Line": {"smooth", "first", "second"}}
	for _, fault := range leave[name] {
		delete(all, fault)
	}
	return all
}

// faulty returns an expression, a box and a precision with the faults of a set.
func faulty(set []string) (api.Expr, []api.Side, int) {
	has := func(fault string) bool { return slices.Contains(set, fault) }
	text, sides, p := "x", []string{"x [-1, 1]"}, 4
	if has("first") {
		text += " + " + product(20)
	}
	if has("second") {
		text += " + " + product(9)
	}
	if has("domain") {
		text += " + log(x)"
	}
	if has("smooth") {
		text += " + abs(x)"
	}
	if has("variable") {
		text += " + q"
	}
	if has("edge") {
		sides = append(sides, "y [0, inf)")
	}
	if has("center") {
		sides = append(sides, "z [1/2, 2^2048-1]")
	}
	if has("precision") {
		p = api.MaxPrec + 1
	}
	e, b := ex(text), box(strings.Join(sides, "; "))
	if has("node") {
		e = api.Expr{Op: api.OpAdd, Kids: []api.Expr{e, {Op: api.OpAbs}}}
	}
	if has("box") {
		b = append(b, api.Side{Name: "zz", Iv: iv("empty")})
	}
	return e, b, p
}

// P5.1: of several errors, the first one in the order of the chapter is returned, and every other result is zero.
func TestOrderOfErrors(t *testing.T) {
	if e := ex(product(9)); true { // the faults are what they are meant to be
		d, err := expr.Derive(e, "x")
		if _, second := expr.Derive(d, "x"); err != api.OK || second != api.ErrLimit {
			t.Fatalf("a product of 9 has the errors %d and %d", err, second)
		}
		if _, err = expr.Derive(ex(product(20)), "x"); err != api.ErrLimit {
			t.Fatalf("a product of 20 has the error %d", err)
		}
	}
	for bits := range 1 << len(faults) {
		var set []string
		for i, fault := range faults {
			if bits>>i&1 == 1 {
				set = append(set, fault)
			}
		}
		e, b, p := faulty(set)
		for _, c := range callers() {
			want, errors := api.OK, faultErrors(c.name)
			for _, fault := range set {
				if err, ok := errors[fault]; ok {
					want = err
					break
				}
			}
			got, err := c.call(e, b, p)
			if err != want || (err != api.OK) && !isZero(got) {
				t.Errorf("%s with %v: %v, error %d, want %d", c.name, set, got, err, want)
			}
		}
	}
}

// P5.1: what is not valid: expressions, boxes, precisions, variables.
func TestInvalid(t *testing.T) {
	endless := api.Expr{Op: api.OpNeg, Kids: make([]api.Expr, 1)}
	endless.Kids[0] = endless
	for what, e := range map[string]api.Expr{"zero": {}, "a kind above OpIf": {Op: 16}, "a large number": {Op: api.OpNum, Num: rat("2^2048")}, "a number below 0": {Op: api.OpNum, Num: rat("-1")}, "a name": {Op: api.OpVar, Name: "in"}, "an exponent": {Op: api.OpPow, Arg: 33, Kids: []api.Expr{ex("x")}}, "an endless one": endless, "a deep one": {Op: api.OpNeg, Kids: []api.Expr{ex(strings.Repeat("-", 29) + "x")}}} {
		for _, c := range callers() {
			if got, err := c.call(e, []api.Side{{}}, -1); !isZero(got) || err != api.ErrNode {
				t.Errorf("%s of %s: error %d", c.name, what, err)
			}
		}
	}
	for what, b := range badBoxes() {
		for _, c := range callers() {
			if got, err := c.call(ex("q / 0"), b, -1); !isZero(got) || err != api.ErrBox {
				t.Errorf("%s over %s: error %d", c.name, what, err)
			}
		}
		if got, err := enclose.Spread(api.Linear{Const: iv("empty")}, b, -1); !isZero(got) || err != api.ErrBox {
			t.Errorf("Spread over %s: error %d", what, err)
		}
	}
	for _, p := range []int{-1, api.MaxPrec + 1, -1 << 63, 1<<63 - 1} {
		for _, c := range callers() {
			if got, err := c.call(ex("q / 0"), box("x [0, inf)"), p); !isZero(got) || err != api.ErrArg {
				t.Errorf("%s with precision %d: error %d", c.name, p, err)
			}
			if got, err := c.call(ex("1"), nil, p); !isZero(got) || err != api.ErrArg {
				t.Errorf("%s with precision %d without sides: error %d", c.name, p, err)
			}
		}
	}
	for _, text := range []string{"q", "x + q", "if(x, 1, q)", "q^0", "0 * q", "if(1, x, log(0) * q)"} {
		for _, c := range callers() {
			for _, b := range []string{"", "x [0, 1]", "p [0, 1]; x [0, inf)"} {
				if got, err := c.call(ex(text), box(b), 4); !isZero(got) || err != api.ErrVar {
					t.Errorf("%s of %s over %s: error %d", c.name, text, b, err)
				}
			}
		}
	}
	for _, p := range []int{0, api.MaxPrec} {
		for _, c := range callers() {
			if _, err := c.call(ex("x + 1/3"), box("x [0, 1]"), p); err != api.OK {
				t.Errorf("%s with precision %d: error %d", c.name, p, err)
			}
		}
	}
}

// P5.6 to P5.9: the order of the errors of operations.
func TestErrorsOfOperations(t *testing.T) {
	for _, c := range []struct {
		name, e, b string
		err        api.Errno
	}{
		{"Gradient", "sqrt(x) + exp(80 * x)", "x [0, 2]", api.ErrDomain}, {"Gradient", "exp(80 * x) + sqrt(x)", "x [0, 2]", api.ErrRange}, {"Gradient", "sqrt(y) + exp(80 * x)", "x [0, 2]; y [0, 1]", api.ErrRange}, {"Gradient", "log(x) - log(x)", "x [0, 1]", api.ErrDomain}, {"Gradient", "log(0) + exp(100)", "x [0, 1]", api.OK},
		{"Hessian", "sqrt(x) + exp(80 * y)", "x [0, 1]; y [0, 1]", api.ErrDomain}, {"Hessian", "sqrt(y) + exp(80 * x)", "x [0, 1]; y [0, 1]", api.ErrRange}, {"Hessian", "exp(80 * x * z) + sqrt(y)", "x [1, 1]; y [0, 1]; z [1, 1]", api.ErrRange}, {"Hessian", "sqrt(y) + exp(80 * z) * z", "x [0, 1]; y [0, 1]; z [1, 1]", api.ErrDomain}, {"Hessian", "x / y + y * exp(80 * z)", "x [0, 1]; y [0, 1]; z [1, 1]", api.ErrDomain},
		{"Mean", "sqrt(x) + exp(80 * x)", "x [0, 2]", api.ErrDomain}, {"Mean", "sqrt(x) + exp(80)", "x [0, 2]", api.ErrDomain}, {"Mean", "sqrt(x) + exp(80)", "x [1, 2]", api.ErrRange}, {"Mean", "x + log(0)", "x [1, 2]", api.ErrDomain}, {"Mean", "x * 1 / 0", "x [1, 2]", api.ErrDomain},
		{"Taylor", "sqrt(x) + exp(80 * x)", "x [0, 2]", api.ErrRange}, {"Taylor", "sqrt(x) + exp(80)", "x [0, 2]", api.ErrDomain}, {"Taylor", "sqrt(x) + exp(80)", "x [1, 2]", api.ErrRange}, {"Taylor", "sqrt(x)", "x [-2, 2]", api.ErrDomain}, {"Taylor", "sqrt(x)", "x [1, 2]", api.OK}, {"Taylor", "sqrt(x)", "x [0, 2]", api.ErrDomain},
		{"Line", "log(x) + exp(80)", "x [0, 1]", api.ErrDomain}, {"Line", "exp(80) + log(x)", "x [0, 1]", api.ErrRange}, {"Line", "exp(80) * log(x)", "x [0, 1]", api.ErrRange}, {"Line", "max(log(x), exp(80))", "x [0, 1]", api.ErrDomain}, {"Line", "-log(x)", "x [0, 1]", api.ErrDomain}, {"Line", "x / (x - x)", "x [0, 1]", api.ErrDomain}, {"Line", "1 / x", "x [0, 1]", api.ErrDomain}, {"Line", "x^-1", "x [0, 1]", api.ErrDomain}, {"Line", "if(log(x), exp(80), 1)", "x [0, 1]", api.ErrDomain}, {"Line", "if(x, exp(80), log(0))", "x [-1, 1]", api.ErrRange}, {"Line", "if(x, exp(80), log(0))", "x [-2, -1]", api.ErrDomain}, {"Line", "if(x, 1, log(0))", "x [1, 2]", api.OK},
		{"Line", "x^32 - log(0)", "x [2^65, 2^65]", api.ErrSize}, {"Line", "x * x * log(0)", "x [2^1024, 2^1024]", api.ErrSize}, {"Line", "log(0) * (x * x)", "x [2^1024, 2^1024]", api.ErrDomain}, {"Line", "min(x + x, log(0))", "x [2^2047, 2^2047]", api.ErrSize}, {"Line", "min(log(0), x + x)", "x [2^2047, 2^2047]", api.ErrDomain},
		{"Mean", "1 / 0 + x * x", "x [0, 2^1025]", api.ErrDomain}, {"Mean", "x * x + 1 / 0", "x [0, 2^1025]", api.ErrSize}, {"Mean", "x * x", "x [0, 2^1025]", api.ErrSize}, {"Taylor", "x * x", "x [0, 2^1025]", api.ErrSize}, {"Range", "x", "x [1/2, 2^2048-1]", api.OK}, {"Mean", "x", "x [1/2, 2^2048-1]", api.ErrSize}, {"Taylor", "x", "x [1/2, 2^2048-1]", api.ErrSize}, {"Line", "x", "x [1/2, 2^2048-1]", api.ErrSize}, {"Best", "x", "x [1/2, 2^2048-1]", api.OK},
		{"Mean", "1", "x [1, 2]; y [2^-2047, 1]", api.ErrSize}, {"Line", "1", "x [1, 2]; y [-2^2047, 2^2047-1]", api.OK},
	} {
		i := slices.IndexFunc(callers(), func(d caller) bool { return d.name == c.name })
		got, err := callers()[i].call(ex(c.e), box(c.b), 4)
		if err != c.err || err != api.OK && !isZero(got) {
			t.Errorf("%s(%s, %s, 4) is %v, error %d, want %d", c.name, c.e, c.b, got, err, c.err)
		}
	}
}

// P5.10 and P5.1: the errors of Spread in their order.
func TestSpreadErrors(t *testing.T) {
	one, large := rat("1"), rat("2^2048")
	for what, c := range map[string]struct {
		l    api.Linear
		b    string
		p    int
		want api.Errno
	}{
		"a precision":                  {api.Linear{Const: api.Interval{Hi: large}, Slopes: []api.Rat{one}}, "x [0, inf)", -1, api.ErrArg},
		"a high precision":             {api.Linear{Slopes: []api.Rat{one}}, "x [0, 1]", 129, api.ErrArg},
		"no slopes":                    {api.Linear{}, "x [0, inf)", 4, api.ErrArg},
		"too many slopes":              {api.Linear{Slopes: []api.Rat{large, one}}, "x [0, inf)", 4, api.ErrArg},
		"a million slopes":             {api.Linear{Slopes: make([]api.Rat, 1000000)}, "x [0, 1]", 4, api.ErrArg},
		"a slope without a side":       {api.Linear{Slopes: []api.Rat{one}}, "", 4, api.ErrArg},
		"an empty Const":               {api.Linear{Const: iv("empty"), Slopes: []api.Rat{large}}, "x [0, inf)", 4, api.ErrArg},
		"an empty Const, disguised":    {api.Linear{Const: disguisedIv(iv("[3, 2]")), Slopes: []api.Rat{one}}, "x [0, 1]", 4, api.ErrArg},
		"an empty Const without sides": {api.Linear{Const: iv("empty")}, "", 4, api.ErrArg},
		"an empty Const with a large":  {api.Linear{Const: api.Interval{Lo: large}, Slopes: []api.Rat{one}}, "x [0, inf)", 4, api.ErrSize},
		"a large number not looked at": {api.Linear{Const: api.Interval{Lo: large, LoInf: true}, Slopes: []api.Rat{one}}, "x [0, inf)", 4, api.ErrSize},
		"a large slope":                {api.Linear{Slopes: []api.Rat{large}}, "x [0, inf)", 4, api.ErrSize},
		"a large slope, the last":      {api.Linear{Slopes: []api.Rat{one, large}}, "x [0, 1]; y [0, inf)", 4, api.ErrSize},
		"an edge":                      {api.Linear{Slopes: []api.Rat{one, one}}, "x [1/2, 2^2048-1]; y [0, inf)", 4, api.ErrEdge},
		"an edge below":                {api.Linear{Slopes: []api.Rat{one}}, "x (-inf, 1]", 4, api.ErrEdge},
		"a center":                     {api.Linear{Slopes: []api.Rat{one}}, "x [1/2, 2^2048-1]", 4, api.ErrSize},
		"a product":                    {api.Linear{Slopes: []api.Rat{rat("2^2000")}}, "x [0, 2^100]", 4, api.ErrSize},
		"a sum":                        {api.Linear{Const: api.Interval{Hi: rat("2^2048-1")}, Slopes: []api.Rat{one}}, "x [0, 2]", 4, api.ErrSize},
		"none":                         {api.Linear{Const: api.Interval{Hi: rat("2^2048-1")}, Slopes: []api.Rat{{}}}, "x [0, 2]", 4, api.OK},
	} {
		got, err := enclose.Spread(c.l, box(c.b), c.p)
		if err != c.want || err != api.OK && !isZero(got) {
			t.Errorf("Spread with %s: error %d, want %d", what, err, c.want)
		}
	}
}

// addresses adds the addresses of the arrays of all slices in v to seen, and reports whether none was there.
func addresses(v reflect.Value, seen map[uintptr]bool) bool {
	fresh := true
	switch v.Kind() {
	case reflect.Slice:
		if v.Cap() > 0 {
			fresh = !seen[v.Pointer()]
			seen[v.Pointer()] = true
		}
		for i := range v.Len() {
			fresh = addresses(v.Index(i), seen) && fresh
		}
	case reflect.Struct:
		for i := range v.NumField() {
			fresh = addresses(v.Field(i), seen) && fresh
		}
	}
	return fresh
}

// expectOwn checks that a call does not change its arguments, and that no part of its result shares memory with them or with another part.
func expectOwn(t *testing.T, what string, call func() any, args ...any) {
	t.Helper()
	before := fmt.Sprint(args...)
	result := call()
	if fmt.Sprint(args...) != before {
		t.Errorf("%s changes an argument", what)
	}
	seen := map[uintptr]bool{}
	for _, arg := range args {
		addresses(reflect.ValueOf(arg), seen)
	}
	if !addresses(reflect.ValueOf(result), seen) {
		t.Errorf("%s shares memory: %v", what, result)
	}
}

// R4: arguments are neither changed nor kept, and results are new memory.
func TestMemory(t *testing.T) {
	point, name := pt("x 1; y 3"), "x"
	for _, b := range [][]api.Side{box("x [1, 1]; y [3, 5/2]")[:1], box("x [1/2, 3/2]; y [2, 7]"), disguisedBox(box("x [1/2, 3/2]; y [2, 7]")), box("x [1, 1]; y [3, 3]")} {
		for _, text := range []string{"1/3", "1", "pi", "x", "-x", "x * x + 3 * x", "x + 1/3", "max(x, 1)", "min(x, x)", "if(x - 1, x, x)", "if(x - 2, x, x - x)", "sin(x) * x", "abs(x)"} {
			for _, e := range []api.Expr{ex(text), disguisedExpr(ex(text))} {
				for _, c := range callers() {
					expectOwn(t, c.name+" of "+text, func() any { result, _ := c.call(e, b, 5); return result }, e, b)
				}
			}
		}
		at := point[:len(b)]
		a := iv("[1/3, 5]")
		expectOwn(t, "Find", func() any { result, _ := enclose.Find(b, name); return result }, b)
		expectOwn(t, "Center", func() any { result, _ := enclose.Center(b); return result }, b)
		expectOwn(t, "At", func() any { result, _ := enclose.At(b, at); return result }, b, at)
		expectOwn(t, "Put", func() any { result, _ := enclose.Put(b, name, a); return result }, b, a)
		expectOwn(t, "Drop", func() any { result, _ := enclose.Drop(b, name); return result }, b)
		expectOwn(t, "Holds", func() any { result, _ := enclose.Holds(b, at); return result }, b, at)
		expectOwn(t, "Widest", func() any { result, _, _ := enclose.Widest(b); return result }, b)
		l := api.Linear{Const: a, Slopes: []api.Rat{rat("1/3"), rat("2")}[:len(b)]}
		expectOwn(t, "Spread", func() any { result, _ := enclose.Spread(l, b, 5); return result }, l, b)
	}
	m := matrix("[2, 3]; [1, 1] | [1, 1]; [4, inf)")
	expectOwn(t, "Definite", func() any { result, _ := enclose.Definite(m, 4); return result }, m)
	empty := []api.Side{}
	if got, err := enclose.At(empty, []api.Value{}); len(got) > 0 || err != api.OK {
		t.Errorf("At of empty lists is %v, error %d", got, err)
	}
}
