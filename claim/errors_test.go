package claim_test

import (
	"fmt"
	"reflect"
	"slices"
	"testing"

	"inequality/api"
	"inequality/claim"
)

// A request holds the arguments of any function on a claim.
type request struct {
	c       api.Claim
	e       api.Expr
	name    string
	other   string
	point   []api.Value
	at      api.Rat
	k, n, p int
	upper   bool
}

// A function is a call with the arguments of a request that returns all its results, and the faults of a request that it looks at, in the order in which they count.
type function struct {
	name   string
	call   func(r request) ([]any, api.Errno)
	faults []string
}

// functions returns the functions with more arguments than a claim.
func functions() []function {
	return []function{
		{"Free", func(r request) ([]any, api.Errno) { a, err := claim.Free(r.c, r.name); return []any{a}, err }, []string{"claim", "name"}},
		{"Member", func(r request) ([]any, api.Errno) { a, err := claim.Member(r.c, r.point, r.p); return []any{a}, err }, []string{"claim", "point", "precision"}},
		{"Refutes", func(r request) ([]any, api.Errno) { a, err := claim.Refutes(r.c, r.point, r.p); return []any{a}, err }, []string{"claim", "point", "precision"}},
		{"Goal", func(r request) ([]any, api.Errno) { a, err := claim.Goal(r.c, r.e, true); return []any{a}, err }, []string{"claim", "node", "variable"}},
		{"Assume", func(r request) ([]any, api.Errno) { a, err := claim.Assume(r.c, r.e, true); return []any{a}, err }, []string{"claim", "node", "variable", "conds"}},
		{"Cut", func(r request) ([]any, api.Errno) { a, b, err := claim.Cut(r.c, r.name, r.at); return []any{a, b}, err }, []string{"claim", "name", "large", "outside"}},
		{"Face", func(r request) ([]any, api.Errno) { a, err := claim.Face(r.c, r.name, r.upper); return []any{a}, err }, []string{"claim", "name", "infinite", "deep"}},
		{"Narrow", func(r request) ([]any, api.Errno) {
			a, b, err := claim.Narrow(r.c, r.k, r.name, r.n, r.p)
			return []any{a, b}, err
		}, []string{"claim", "name", "precision", "parts", "index", "infinite", "wide"}},
		{"Branch", func(r request) ([]any, api.Errno) { a, b, err := claim.Branch(r.c); return []any{a, b}, err }, []string{"claim", "smooth", "conds"}},
		{"Turn", func(r request) ([]any, api.Errno) { a, err := claim.Turn(r.c, r.name, r.at); return []any{a}, err }, []string{"claim", "name", "large", "bounded", "far"}},
		{"Symmetric", func(r request) ([]any, api.Errno) {
			a, err := claim.Symmetric(r.c, r.name, r.other)
			return []any{a}, err
		}, []string{"claim", "name", "other", "same"}},
	}
}

// faultErrors are the errors of the faults.
var faultErrors = map[string]api.Errno{"claim": api.ErrClaim, "node": api.ErrNode, "variable": api.ErrVar, "name": api.ErrVar, "other": api.ErrVar, "point": api.ErrBox, "large": api.ErrSize, "precision": api.ErrArg, "parts": api.ErrArg, "index": api.ErrArg, "same": api.ErrArg, "conds": api.ErrLimit, "outside": api.ErrSide, "infinite": api.ErrForm, "deep": api.ErrLimit, "wide": api.ErrSize, "smooth": api.ErrSmooth, "bounded": api.ErrForm, "far": api.ErrSize}

// faulty returns a request for a function with the faults of a set, and without others.
func faulty(name string, set []string) request {
	has := func(fault string) bool { return slices.Contains(set, fault) }
	r := request{c: made("abs(sin(y)) > 0", "x [-1, 3]; y [-1, 3]", "sin(x) > 0"), e: ex("x"), name: "x", other: "y", point: pt("x 1; y 1"), at: rat("1/3"), n: 2, p: 4}
	if name == "Turn" {
		r.c.Box = box("x (-inf, inf); y [-1, 3]")
	}
	if has("bounded") {
		r.c.Box[0].Iv = iv("[-1, 3]")
	}
	if has("infinite") {
		r.c.Box[0].Iv = iv("(-inf, 3]")
	} else if has("wide") {
		r.c.Box[0].Iv = iv("[-1, 2^2048-1]")
	}
	if has("deep") {
		r.c.Conds[0] = rel(towerText(30, "x") + " > 0")
	}
	if has("smooth") {
		r.c.Goal = ex("x + y")
	}
	if has("conds") {
		r.c.Conds = slices.Repeat(r.c.Conds, api.MaxConds)
	}
	if has("far") {
		r.at = rat("2^2048-1")
	}
	if has("outside") {
		r.at = rat("3")
	}
	if has("large") {
		r.at = rat("2^2048")
	}
	if has("precision") {
		r.p = -1
	}
	if has("parts") {
		r.n = 17
	}
	if has("index") {
		r.k = 1
	}
	if has("same") {
		r.other = "x"
	}
	if has("other") {
		r.other = "w"
	}
	if has("name") {
		r.name = "w"
	}
	if has("point") {
		r.point = pt("y 1; x 1")
	}
	if has("variable") {
		r.e = ex("w + x")
	}
	if has("node") {
		r.e = api.Expr{Op: api.OpAdd, Kids: []api.Expr{r.e}}
	}
	if has("claim") {
		r.c.Box = append(r.c.Box, api.Side{Name: "a", Iv: iv("[0, 1]")})
	}
	return r
}

// P6.1: of several errors, the first one in the order of the chapter is returned, and every other result is zero.
func TestOrderOfErrors(t *testing.T) {
	for _, f := range functions() {
		for bits := range 1 << len(f.faults) {
			var set []string
			want := api.OK
			for i, fault := range f.faults {
				if bits>>i&1 == 0 {
					continue
				}
				set = append(set, fault)
				if want == api.OK {
					want = faultErrors[fault]
					if fault == "infinite" && f.name == "Narrow" {
						want = api.ErrEdge
					}
				}
			}
			results, err := f.call(faulty(f.name, set))
			if err != want || err != api.OK && slices.ContainsFunc(results, func(x any) bool { return !isZero(x) }) {
				t.Errorf("%s with %v: %v, error %d, want %d", f.name, set, results, err, want)
			}
		}
	}
}

// P6.1: ErrClaim of every function, ahead of all other errors.
func TestInvalidClaims(t *testing.T) {
	for what, c := range badClaims() {
		for _, f := range functions() {
			r := faulty(f.name, []string{"node", "name", "point", "large", "precision", "index"})
			r.c = c
			results, err := f.call(r)
			if err != api.ErrClaim || slices.ContainsFunc(results, func(x any) bool { return !isZero(x) }) {
				t.Errorf("%s of %s: error %d", f.name, what, err)
			}
		}
		if text, err := claim.Print(c); text != "" || err != api.ErrClaim {
			t.Errorf("Print of %s: error %d", what, err)
		}
		for _, d := range []api.Claim{c, made("1 > 0", ""), made("x > 0", "x [0, 1]")} {
			for _, pair := range [][2]api.Claim{{c, d}, {d, c}} {
				if same, err := claim.Equal(pair[0], pair[1]); same || err != api.ErrClaim {
					t.Errorf("Equal of %s: %v, error %d", what, same, err)
				}
			}
		}
	}
}

// P6.1: strings that are no names of sides, points that are not valid, expressions that are not valid, and numbers that are large.
func TestInvalidArguments(t *testing.T) {
	for _, f := range functions() {
		expected := func(what string, r request, want api.Errno) {
			t.Helper()
			results, err := f.call(r)
			if err != want || slices.ContainsFunc(results, func(x any) bool { return !isZero(x) }) {
				t.Errorf("%s with %s: error %d, want %d", f.name, what, err, want)
			}
		}
		if slices.Contains(f.faults, "name") {
			for _, name := range []string{"", "w", "X", "pi", "in", "abcdefghi", "x ", "xy", "x\x00", "\xff"} {
				r := faulty(f.name, nil)
				r.name = name
				expected("name "+name, r, api.ErrVar)
			}
		}
		if slices.Contains(f.faults, "point") {
			for _, at := range []string{"y 1; x 1", "x 1; x 1", "X 1", "sin 1", "x 2^2048", "x 2^-2048; y 1", "x 0; y -2^2048", "x 0; y 0; y 0", "1 1"} {
				for _, p := range []int{-1, 4} {
					r := faulty(f.name, nil)
					r.point, r.p = pt(at), p
					expected("point "+at, r, api.ErrBox)
				}
			}
			r := faulty(f.name, nil)
			r.point = make([]api.Value, 1000000)
			expected("a million values", r, api.ErrBox)
		}
		if slices.Contains(f.faults, "precision") {
			for _, p := range []int{-1, api.MaxPrec + 1, -1 << 63, 1<<63 - 1} {
				r := faulty(f.name, nil)
				r.p, r.point = p, pt("x 9; y 1") // not in the box
				expected("a precision", r, api.ErrArg)
			}
		}
		if slices.Contains(f.faults, "node") {
			endless := api.Expr{Op: api.OpNeg, Kids: make([]api.Expr, 1)}
			endless.Kids[0] = endless
			for _, e := range []api.Expr{{}, {Op: 16}, {Op: api.OpNum, Num: rat("2^2048")}, {Op: api.OpNum, Num: rat("-1")}, {Op: api.OpVar, Name: "in"}, {Op: api.OpPow, Arg: 33, Kids: []api.Expr{ex("w")}}, endless, {Op: api.OpNeg, Kids: []api.Expr{ex(towerText(30, "x"))}}} {
				r := faulty(f.name, nil)
				r.e = e
				expected("a bad expression", r, api.ErrNode)
			}
			for _, text := range []string{"w", "x + w", "0 * w", "if(1, x, w)", "w^0", "x1"} {
				r := faulty(f.name, nil)
				r.e = ex(text)
				expected(text, r, api.ErrVar)
			}
		}
		if slices.Contains(f.faults, "large") {
			for _, at := range []api.Rat{rat("2^2048"), rat("-2^2048"), rat("2^-2048"), {Den: append(make([]uint32, 4*api.MaxWords), 1)}} {
				r := faulty(f.name, nil)
				r.at = at
				expected("a large number", r, api.ErrSize)
			}
		}
	}
}

// addresses adds the addresses of the arrays of all slices in v to seen, and reports whether none was there.
func addresses(v reflect.Value, seen map[uintptr]bool) bool {
	fresh := true
	switch v.Kind() {
	case reflect.Interface:
		return addresses(v.Elem(), seen)
	case reflect.Slice:
		if v.Cap() > 0 {
			fresh = !seen[v.Pointer()]
			seen[v.Pointer()] = true
		}
		for i := range v.Len() {
			fresh = addresses(v.Index(i), seen) && fresh
		}
	case reflect.Struct:
		for i := range v.NumField() {
			if f := v.Type().Field(i); f.IsExported() {
				fresh = addresses(v.Field(i), seen) && fresh
			}
		}
	}
	return fresh
}

// R4: arguments are neither changed nor kept, and results are new memory, of which no two parts share any.
func TestMemory(t *testing.T) {
	list := append(goodClaims(), cl("x + max(1/3, x) > 1/3 for x in [1/3, 7/3], y in [1/3, 7/3], z in (-inf, inf) where 1/3 - x > 0, sin(z) * x >= 1/3"), cl("abs(sin(z)) >= 1/3 for x in [-1/3, 7/3], z in (-inf, inf) where cos(z) > 1/3"), cl("if(x - 1/3, x, 1/3) * 7/3 > 0 for x in [1/3, 1/3], y in [1/3, 1/3]"))
	for _, c := range append(list, disguisedClaim(list[len(list)-1]), disguisedClaim(list[len(list)-2]), disguisedClaim(list[len(list)-3])) {
		for _, name := range []string{"x", "y", "z"} {
			r := request{c: c, e: ex("1/3 + 7/3"), name: name, other: "x", point: pt("x 1/3; y 1/3; z 5/3"), at: rat("2/3"), n: 3, p: 5, upper: name == "x"}
			r.c.Conds = slices.Grow(r.c.Conds, 5) // spare memory that must not be used
			for _, f := range functions() {
				before := fmt.Sprint(r.c.Conds[:cap(r.c.Conds)], r)
				results, _ := f.call(r)
				if fmt.Sprint(r.c.Conds[:cap(r.c.Conds)], r) != before {
					t.Errorf("%s changes an argument", f.name)
				}
				seen := map[uintptr]bool{}
				for _, arg := range []any{r.c, r.e, r.point, r.at} {
					addresses(reflect.ValueOf(arg), seen)
				}
				if !addresses(reflect.ValueOf(results), seen) {
					t.Errorf("%s of %s shares memory: %v", f.name, show(c), results)
				}
			}
		}
	}
	for _, c := range list {
		if text, err := claim.Print(c); err == api.OK {
			if d := cl(text); !addresses(reflect.ValueOf(d), map[uintptr]bool{}) {
				t.Errorf("Parse(%s) shares memory", cut(text))
			}
		}
	}
}
