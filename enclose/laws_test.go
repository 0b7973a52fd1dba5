package enclose_test

import (
	"math/big"
	"math/rand"
	"testing"

	"inequality/api"
	"inequality/enclose"
	"inequality/expr"
)

// enclosures returns the enclosures of a scene that have no error.
func (s scene) enclosures() map[string]api.Interval {
	all := map[string]api.Interval{}
	keep := func(name string, a api.Interval, err api.Errno) {
		if err == api.OK {
			all[name] = a
		}
	}
	a, err := enclose.Range(s.e, s.b, s.p)
	keep("Range", a, err)
	a, err = enclose.Mean(s.e, s.b, s.p)
	keep("Mean", a, err)
	a, err = enclose.Taylor(s.e, s.b, s.p)
	keep("Taylor", a, err)
	if l, err := enclose.Line(s.e, s.b, s.p); err == api.OK {
		a, err = enclose.Spread(l, s.b, s.p)
		keep("Line", a, err)
	}
	a, err = enclose.Best(s.e, s.b, s.p)
	keep("Best", a, err)
	return all
}

// P5.13: every enclosure contains the values at the points of the box, and if Range has no error, none of its points is undefined.
func TestContainment(t *testing.T) {
	exact, close := 0, 0
	check := func(r *rand.Rand, s scene) {
		all := s.enclosures()
		for range 4 {
			at := randomPoint(r, s.b)
			v, ok, _ := expr.Value(s.e, at)
			there, _ := enclose.At(s.b, at)
			near, err := enclose.Range(s.e, there, api.MaxPrec)
			if _, defined := all["Range"]; defined && err == api.ErrDomain {
				t.Errorf("Range%s has no error, but the expression is undefined at %s", s.text(), ptText(at))
			}
			for name, a := range all {
				if ok && !has(a, value(v)) {
					t.Errorf("%s%s is %s, but the value is %s at %s", name, s.text(), ivText(a), short(v), ptText(at))
				}
				if err == api.OK && !overlap(a, near) {
					t.Errorf("%s%s is %s, but the value is in %s at %s", name, s.text(), ivText(a), ivText(near), ptText(at))
				}
				if ok {
					exact++
				} else if err == api.OK {
					close++
				}
			}
		}
	}
	scenes(71, 400, polynomials, true, check)
	scenes(72, 600, smooths, true, check)
	scenes(73, 400, everything, true, check)
	scenes(74, 400, everything, false, check)
	if exact < 8000 || close < 1000 {
		t.Errorf("too few values: %d and %d", exact, close)
	}
}

// narrowed returns a box inside b.
func narrowed(r *rand.Rand, b []api.Side) []api.Side {
	var list []api.Side
	for _, s := range b {
		x, y := randomMember(r, s.Iv), randomMember(r, s.Iv)
		if x.Cmp(y) > 0 {
			x, y = y, x
		}
		a := api.Interval{Lo: canonical(x), Hi: canonical(y)}
		switch r.Intn(6) {
		case 0:
			a = s.Iv
		case 1:
			if a.LoInf = s.Iv.LoInf; a.LoInf {
				a.Lo = api.Rat{}
			}
		}
		list = append(list, api.Side{Name: s.Name, Iv: a})
	}
	return list
}

// P5.14: Range over a box inside another one is inside Range over that one.
func TestSubboxes(t *testing.T) {
	plain := blend{smooths.leaves, []int{api.OpAdd, api.OpSub, api.OpMul, api.OpMul, api.OpDiv, api.OpPow, api.OpNeg, api.OpAbs, api.OpMin, api.OpMax}}
	count := 0
	scenes(75, 3000, plain, false, func(r *rand.Rand, s scene) {
		outer, err := enclose.Range(s.e, s.b, s.p)
		if err != api.OK {
			return
		}
		b := narrowed(r, s.b)
		inner, err := enclose.Range(s.e, b, s.p)
		if err != api.OK && err != api.ErrSize || err == api.OK && !inside(inner, outer) {
			t.Errorf("Range%s is %s, but over %s it is %s, error %d", s.text(), ivText(outer), boxText(b), ivText(inner), err)
		}
		count++
	})
	if count < 1500 {
		t.Errorf("only %d expressions have ranges", count)
	}
}

// linear returns an expression that is linear in the first n letters.
func linear(r *rand.Rand, n, depth int) api.Expr {
	x := api.Expr{Op: api.OpVar, Name: string(rune('a' + r.Intn(n)))}
	switch kind := r.Intn(5); {
	case depth == 1 && kind < 2:
		return x
	case depth == 1:
		factor := api.Expr{Op: api.OpNum, Num: canonical(big.NewRat(int64(r.Intn(50)), 1))}
		return api.Expr{Op: api.OpMul, Kids: []api.Expr{factor, x}}
	case kind == 0:
		return api.Expr{Op: api.OpNeg, Kids: []api.Expr{linear(r, n, depth-1)}}
	}
	kids := []api.Expr{linear(r, n, depth-1), linear(r, n, depth-1)}
	return api.Expr{Op: api.OpAdd + r.Intn(2), Kids: kids}
}

// P5.15: the linear form of a linear expression over a box on the grid.
func TestLinearFunctions(t *testing.T) {
	r := rand.New(rand.NewSource(76))
	for range 500 {
		n, p := 1+r.Intn(4), 1+r.Intn(9)
		var b []api.Side
		for i := range n { // even multiples of the grid's step, so that the center is on it
			lo := big.NewRat(2*int64(r.Intn(100)-50), 1<<p)
			length := big.NewRat(2*int64(r.Intn(40)), 1<<p)
			b = append(b, api.Side{Name: string(rune('a' + i)), Iv: api.Interval{Lo: canonical(lo), Hi: canonical(length.Add(length, lo))}})
		}
		s := scene{linear(r, n, 1+r.Intn(5)), b, p}
		l, err := enclose.Line(s.e, s.b, s.p)
		if err != api.OK || !sameRat(l.Const.Lo, l.Const.Hi) {
			t.Fatalf("Line%s has the Const %s, error %d", s.text(), ivText(l.Const), err)
		}
		want, wantErr := enclose.Mean(s.e, s.b, s.p)
		got, err := enclose.Spread(l, s.b, s.p)
		expect(t, "Spread of Line"+s.text(), got, err, want, wantErr)
	}
}
