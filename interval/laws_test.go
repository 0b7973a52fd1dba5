package interval_test

import (
	"fmt"
	"math/big"
	"math/rand"
	"testing"

	"inequality/api"
	"inequality/elem"
	"inequality/interval"
)

// P3.13: the results of the operations on numbers are in the results on intervals.
func TestContainment(t *testing.T) {
	pairs(41, 1500, 8, func(r *rand.Rand, a, b api.Interval) {
		m, o, p := meaning(a), meaning(b), precision(r)
		if m.empty || o.empty {
			return
		}
		x, y := m.member(r), o.member(r)
		holds := func(what string, got api.Interval, err api.Errno, z *big.Rat) {
			if err == api.OK && !meaning(got).has(z) {
				t.Errorf("%s of %s and %s (%d) is %s, without %s", what, text(a), text(b), p, text(got), z.RatString())
			}
		}
		for _, op := range operations() {
			if op.name == "Div" && y.Sign() == 0 {
				continue
			}
			got, err := op.call(a, b, p)
			holds(op.name, got, err, op.op(x, y))
		}
		got, err := interval.Round(a, p)
		holds("Round", got, err, x)
		got, err = interval.Neg(a)
		holds("Neg", got, err, neg(x))
		got, err = interval.Abs(a)
		holds("Abs", got, err, new(big.Rat).Abs(x))
		got, err = interval.Min(a, b)
		holds("Min", got, err, lesser(x, y))
		got, err = interval.Max(a, b)
		holds("Max", got, err, greater(x, y))
		if n := r.Intn(13) - 6; x.Sign() != 0 || n >= 0 {
			got, err = interval.Pow(a, n, p)
			holds(fmt.Sprint("Pow ", n), got, err, power(x, n))
		}
		n := 2 + r.Intn(api.MaxRoot-1)
		if n%2 == 0 {
			x.Abs(x)
		}
		z := power(x, n)
		around := model{lo: z, hi: add(z, new(big.Rat).Abs(y))}
		if r.Intn(2) == 0 && n%2 == 1 {
			around = model{lo: sub(z, new(big.Rat).Abs(y)), hi: z}
		}
		got, err = interval.Root(around.interval(), n, p)
		holds(fmt.Sprint("Root ", n), got, err, x)
		if err != api.OK {
			t.Errorf("Root(%s, %d): error %d", text(around.interval()), n, err)
		}
	})
}

// P3.13: the values of the elementary functions are in the results of Call.
func TestCallContainment(t *testing.T) {
	calls(42, 300, func(r *rand.Rand, fn int, m model, p int) {
		got, err := interval.Call(fn, m.interval(), p)
		if m.empty || err != api.OK {
			return
		}
		for range 4 {
			x := m.member(r)
			fine, err := bracket(fn, x, api.MaxPrec)
			if err != api.OK {
				continue
			}
			// The value itself is somewhere in its bracket with the greatest precision.
			g := meaning(got)
			if g.lo != nil && fine.hi.Cmp(g.lo) < 0 || g.hi != nil && fine.lo.Cmp(g.hi) > 0 {
				t.Errorf("Call(%s, %s, %d) is %s, without the value at %s", elem.Name(fn), text(m.interval()), p, text(got), x.RatString())
			}
		}
	})
}

// part returns an interval that is inside m.
func part(r *rand.Rand, m model) model {
	if m.empty || r.Intn(12) == 0 {
		return model{empty: true}
	}
	lo, hi := m.member(r), m.member(r)
	p := model{lo: lo, hi: hi}.ordered()
	if r.Intn(3) == 0 {
		p.lo = m.lo
	}
	if r.Intn(3) == 0 {
		p.hi = m.hi
	}
	return p
}

// P3.14: operations on parts of intervals have no new errors, and their results are parts of the results.
func TestIsotony(t *testing.T) {
	r := rand.New(rand.NewSource(43))
	for range 1200 {
		m, o, p := randomModel(r, 6), randomModel(r, 6), precision(r)
		x, y := part(r, m), part(r, o)
		for _, c := range callers() {
			if c.name == "Call" || c.name == "IsEmpty" || c.name == "Bounded" || c.name == "Has" || c.name == "Inside" || c.name == "Sign" || c.name == "Middle" {
				continue
			}
			n := 2 + r.Intn(api.MaxRoot-1)
			if c.name == "Pow" {
				n = r.Intn(13) - 6
			}
			whole := c.call(m.interval(), o.interval(), n, p)
			if whole.err != api.OK {
				continue
			}
			got := c.call(x.interval(), y.interval(), n, p)
			if got.err != api.OK || !meaning(got.a).inside(meaning(whole.a)) {
				t.Errorf("%s (%d, %d) of %s and %s is %s (%d), of %s and %s %s", c.name, n, p, text(x.interval()), text(y.interval()), text(got.a), got.err, text(m.interval()), text(o.interval()), text(whole.a))
			}
		}
	}
}

// P3.14: Call on a part of an interval has no new error but ErrRange, and where the brackets at the ends are in order, its result is a part of the result.
func TestCallIsotony(t *testing.T) {
	calls(44, 300, func(r *rand.Rand, fn int, m model, p int) {
		whole, err := interval.Call(fn, m.interval(), p)
		if err != api.OK {
			return
		}
		x := part(r, m)
		got, err := interval.Call(fn, x.interval(), p)
		if err != api.OK && err != api.ErrRange {
			t.Errorf("Call(%s, %s, %d) has the error %d", elem.Name(fn), text(x.interval()), p, err)
		}
		if fn == api.FnSin || fn == api.FnCos || fn == api.FnTan || err != api.OK {
			return
		}
		if !meaning(got).inside(meaning(whole)) {
			t.Errorf("Call(%s, %s, %d) is %s, on %s it is %s", elem.Name(fn), text(x.interval()), p, text(got), text(m.interval()), text(whole))
		}
	})
}

// P3.15: the laws.
func TestLaws(t *testing.T) {
	pairs(45, 800, 30, func(r *rand.Rand, a, b api.Interval) {
		c, p := randomModel(r, 30).interval(), precision(r)
		equal := func(law string, x, y outcome) {
			if x.err != y.err || !identical(x.a, y.a) {
				t.Errorf("%s for %s, %s, %s, %d: %s and %s", law, text(a), text(b), text(c), p, text(x.a), text(y.a))
			}
		}
		equal("Add is commutative", made(interval.Add(a, b, p)), made(interval.Add(b, a, p)))
		equal("Mul is commutative", made(interval.Mul(a, b, p)), made(interval.Mul(b, a, p)))
		for name, op := range map[string]func(a, b api.Interval) (api.Interval, api.Errno){"Meet": interval.Meet, "Hull": interval.Hull} {
			ab, bc := made(op(a, b)), made(op(b, c))
			equal(name+" is commutative", ab, made(op(b, a)))
			equal(name+" is associative", made(op(ab.a, c)), made(op(a, bc.a)))
		}
		sub, err := interval.Sub(a, b, p)
		if err != api.OK {
			t.Errorf("Sub(%s, %s, %d): error %d", text(a), text(b), p, err)
		}
		equal("Neg of Sub", made(interval.Neg(sub)), made(interval.Sub(b, a, p)))
	})
}

// P3.16: the ends of rounded results are on the grid.
func TestGrid(t *testing.T) {
	check := func(what string, a api.Interval, p int) {
		if m := meaning(a); m.lo != nil && !m.empty && m.lo.Cmp(down(m.lo, p)) != 0 || m.hi != nil && m.hi.Cmp(up(m.hi, p)) != 0 {
			t.Errorf("%s with the precision %d: %s is not on the grid", what, p, text(a))
		}
		if !identical(a, meaning(a).interval()) {
			t.Errorf("%s: %v is not canonical", what, a)
		}
	}
	pairs(46, 400, 20, func(r *rand.Rand, a, b api.Interval) {
		p := precision(r)
		for _, c := range rounders() {
			if c.name == "Call" {
				continue
			}
			if got := c.call(a, b, 2+r.Intn(api.MaxRoot-1), p); got.err == api.OK {
				check(c.name, got.a, p)
			}
		}
	})
	calls(47, 60, func(r *rand.Rand, fn int, m model, p int) {
		if got, err := interval.Call(fn, m.interval(), p); err == api.OK {
			check(elem.Name(fn), got, p)
		}
	})
}

// The examples of the chapter.
func TestExamples(t *testing.T) {
	got, err := interval.Canon(api.Interval{Lo: rat("2"), Hi: rat("1")})
	expect(t, "example 1", got, err, iv("empty"), api.OK)
	got, err = interval.Canon(api.Interval{Lo: rat("2"), Hi: rat("1"), LoInf: true})
	expect(t, "example 1", got, err, iv("(-inf, 1]"), api.OK)
	for _, c := range []struct {
		got  outcome
		want string
		err  api.Errno
	}{
		{made(interval.Mul(iv("[-1, 2]"), iv("[3, 4]"), 5)), "[-4, 8]", api.OK},
		{made(interval.Mul(iv("[0, 0]"), interval.Whole(), 3)), "[0, 0]", api.OK},
		{made(interval.Div(iv("[1, 1]"), iv("[3, 4]"), 2)), "[1/4, 1/2]", api.OK},
		{made(interval.Div(iv("[1, 1]"), iv("[2, inf)"), 4)), "[0, 1/2]", api.OK},
		{made(interval.Div(iv("[1, 2]"), iv("[0, 1]"), 4)), "empty", api.ErrZero},
		{made(interval.Pow(iv("[-2, 1]"), 2, 0)), "[0, 4]", api.OK},
		{made(interval.Pow(iv("[-2, 1]"), 3, 0)), "[-8, 1]", api.OK},
		{made(interval.Pow(iv("[2, inf)"), -1, 3)), "[0, 1/2]", api.OK},
		{made(interval.Call(api.FnExp, iv("(-inf, 0]"), 4)), "[0, 1]", api.OK},
		{made(interval.Call(api.FnSin, iv("[1, 2]"), 2)), "[3/4, 1]", api.OK},
		{made(interval.Call(api.FnLog, iv("[0, 1]"), 4)), "empty", api.ErrDomain},
		{made(interval.Call(api.FnTan, iv("[1, 2]"), 4)), "empty", api.ErrDomain},
	} {
		expectOutcome(t, "an example", c.got, outcome{iv(c.want), c.err})
	}
}
