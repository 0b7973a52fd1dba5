package expr_test

import (
	"math/rand"
	"slices"
	"testing"

	"inequality/api"
	"inequality/expr"
)

// outcome is the result of a call: the expressions in it, whether all other results are zero, and the error.
type outcome struct {
	exprs []api.Expr
	zero  bool
	err   api.Errno
}

// caller is a call of a function with the expression e, a name and a number; two tells that it takes a second expression, f.
type caller struct {
	name string
	two  bool
	call func(e, f api.Expr, name string, x api.Rat) outcome
}

// told makes an outcome of a result that is a bool.
func told(ok bool, err api.Errno) outcome { return outcome{nil, !ok, err} }

// made makes an outcome of a result that is an expression.
func made(e api.Expr, err api.Errno) outcome { return outcome{[]api.Expr{e}, true, err} }

// callers returns every function that takes an expression and has errors.
func callers() []caller {
	return []caller{
		{"Size", false, func(e, f api.Expr, name string, x api.Rat) outcome {
			n, err := expr.Size(e)
			return outcome{nil, n == 0, err}
		}},
		{"Vars", false, func(e, f api.Expr, name string, x api.Rat) outcome {
			list, err := expr.Vars(e)
			return outcome{nil, len(list) == 0, err}
		}},
		{"Equal", true, func(e, f api.Expr, name string, x api.Rat) outcome { return told(expr.Equal(e, f)) }},
		{"Print", false, func(e, f api.Expr, name string, x api.Rat) outcome {
			text, err := expr.Print(e)
			return outcome{nil, text == "", err}
		}},
		{"Subst", true, func(e, f api.Expr, name string, x api.Rat) outcome {
			return made(expr.Subst(e, []api.Bind{{Name: "x", E: tree("1")}, {Name: name, E: f}}))
		}},
		{"Swap", false, func(e, f api.Expr, name string, x api.Rat) outcome { return made(expr.Swap(e, "x", name)) }},
		{"Value", false, func(e, f api.Expr, name string, x api.Rat) outcome {
			v, ok, err := expr.Value(e, []api.Value{{Name: "x", Num: rat("1")}, {Name: name, Num: x}})
			return outcome{nil, sameRat(v, api.Rat{}) && !ok, err}
		}},
		{"Simplify", false, func(e, f api.Expr, name string, x api.Rat) outcome { return made(expr.Simplify(e)) }},
		{"Smooth", false, func(e, f api.Expr, name string, x api.Rat) outcome { return told(expr.Smooth(e)) }},
		{"Derive", false, func(e, f api.Expr, name string, x api.Rat) outcome { return made(expr.Derive(e, name)) }},
		{"Branch", false, func(e, f api.Expr, name string, x api.Rat) outcome {
			cond, yes, no, err := expr.Branch(e)
			return outcome{[]api.Expr{cond, yes, no}, true, err}
		}},
		{"Periodic", false, func(e, f api.Expr, name string, x api.Rat) outcome { return told(expr.Periodic(e, name)) }},
		{"Poly", false, func(e, f api.Expr, name string, x api.Rat) outcome {
			list, err := expr.Poly(e)
			return outcome{nil, len(list) == 0, err}
		}},
		{"Congruent", true, func(e, f api.Expr, name string, x api.Rat) outcome { return told(expr.Congruent(e, f)) }},
	}
}

// isOnly reports whether an outcome is this error and nothing else.
func (o outcome) isOnly(err api.Errno) bool {
	return o.err == err && o.zero && !slices.ContainsFunc(o.exprs, func(e api.Expr) bool { return !isZero(e) })
}

// P4.1, R2: an expression that is not valid comes before all other errors, and every other result is zero.
func TestErrNode(t *testing.T) {
	good := []api.Expr{tree("y"), tree("(abs (^ 3 (^ 32 x)))"), longText(4200), filler(300)}
	for what, bad := range invalid() {
		for _, c := range callers() {
			for _, name := range []string{"y", "x", "", "pi"} {
				for _, x := range []api.Rat{rat("1"), rat("2^2048")} {
					for _, f := range good {
						if o := c.call(bad, f, name, x); !o.isOnly(api.ErrNode) {
							t.Fatalf("%s of %s: %v", c.name, what, o)
						}
						if !c.two {
							continue
						}
						if o := c.call(f, bad, name, x); !o.isOnly(api.ErrNode) {
							t.Fatalf("%s of a second expression, %s: %v", c.name, what, o)
						}
					}
				}
			}
		}
	}
}

// P4.1, R2: the names and numbers come next, before what the promises name.
func TestErrNameSize(t *testing.T) {
	e := put("(abs @)", filler(299))
	for _, c := range callers() {
		if !slices.Contains([]string{"Subst", "Swap", "Value", "Derive", "Periodic"}, c.name) {
			continue
		}
		for _, name := range []string{"", "pi", "X", "abcdefghi", "1"} {
			if o := c.call(e, e, name, rat("2^2048")); !o.isOnly(api.ErrName) {
				t.Errorf("%s with the name %q: %v", c.name, name, o)
			}
		}
	}
	for name, want := range map[string]api.Errno{"Subst": api.ErrName, "Value": api.ErrName} { // in a list with x
		i := slices.IndexFunc(callers(), func(c caller) bool { return c.name == name })
		if o := callers()[i].call(e, e, "x", rat("2^2048")); !o.isOnly(want) {
			t.Errorf("%s with x twice: %v", name, o)
		}
	}
}

// memory collects the first elements of the slices of expressions and numbers, which tell them apart.
type memory map[any]bool

// add adds the slices of an expression, and reports whether one of them was there.
func (m memory) add(e api.Expr) bool {
	found := m.addNumber(e.Num)
	if len(e.Kids) > 0 {
		found = m.addPointer(&e.Kids[0]) || found
	}
	for _, kid := range e.Kids {
		found = m.add(kid) || found
	}
	return found
}

func (m memory) addNumber(x api.Rat) bool {
	found := false
	for _, list := range [][]uint32{x.Num, x.Den} {
		if len(list) > 0 {
			found = m.addPointer(&list[0]) || found
		}
	}
	return found
}

func (m memory) addPointer(p any) bool {
	found := m[p]
	m[p] = true
	return found
}

// R4: arguments are not changed, results are new memory, and no two parts of a result share theirs.
func TestMemory(t *testing.T) {
	everything.each(26, 1500, 5, func(r *rand.Rand, e api.Expr) {
		if !expr.Valid(e) {
			return
		}
		e = disguise(r, e)
		f := disguise(r, everything.random(r, 2))
		wasE, wasF := showFields(e), showFields(f)
		for _, c := range callers() {
			m := memory{}
			m.add(e)
			m.add(f)
			x := rat("7/3")
			m.addNumber(x)
			for _, result := range c.call(e, f, "y", x).exprs {
				if m.add(result) {
					t.Errorf("%s of %s and %s shares memory", c.name, show(e), show(f))
				}
				if !identical(result, remade(result)) {
					t.Errorf("%s of %s and %s has numbers that are not canonical", c.name, show(e), show(f))
				}
			}
			if showFields(e) != wasE || showFields(f) != wasF {
				t.Fatalf("%s changes %s or %s", c.name, wasE, wasF)
			}
		}
	})
}

// remade returns a copy of e with canonical numbers.
func remade(e api.Expr) api.Expr {
	e.Num = canonical(value(e.Num))
	kids := slices.Clone(e.Kids)
	for i := range kids {
		kids[i] = remade(kids[i])
	}
	e.Kids = kids
	return e
}

// showFields returns a text that differs for trees with different fields.
func showFields(e api.Expr) string {
	text := show(api.Expr{Op: e.Op, Arg: e.Arg, Name: e.Name})
	for _, list := range [][]uint32{e.Num.Num, e.Num.Den} {
		for _, word := range list {
			text += "," + natural([]uint32{word}).String()
		}
		text += ";"
	}
	if e.Num.Neg {
		text += "-"
	}
	for _, kid := range e.Kids {
		text += "(" + showFields(kid) + ")"
	}
	return text
}

// R4: the numbers of Value, Poly and Literal are new memory too.
func TestNumberMemory(t *testing.T) {
	m := memory{}
	e, at := tree("7/3"), []api.Value{{Name: "x", Num: rat("7/3")}}
	m.add(e)
	m.addNumber(at[0].Num)
	for _, arg := range []api.Expr{e, tree("x"), tree("(if 1 x x)"), tree("(max x 1)")} {
		if v, ok, _ := expr.Value(arg, at); !ok || m.addNumber(v) {
			t.Errorf("Value(%s) shares memory", show(arg))
		}
	}
	list, _ := expr.Poly(put("(+ (* @ x) (+ @ (* @ (* x y))))", e))
	for _, term := range list {
		if m.addNumber(term.Coef) || len(term.Factors) > 0 && m.addPointer(&term.Factors[0]) {
			t.Errorf("Poly shares memory")
		}
	}
	if literal, _ := expr.Literal(at[0].Num); m.add(literal) {
		t.Errorf("Literal shares memory")
	}
	one, _, _ := expr.Parse("7/3 + 7/3")
	if m.add(one) {
		t.Errorf("Parse shares memory")
	}
}
