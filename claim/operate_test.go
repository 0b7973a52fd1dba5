package claim_test

import (
	"slices"
	"strings"
	"testing"

	"inequality/api"
	"inequality/claim"
	"inequality/enclose"
	"inequality/interval"
	"inequality/number"
)

// expectSame checks that got is want for an argument that is canonical, and differs from it in no more than how numbers are denoted for one that is not.
func expectSame(t *testing.T, what string, call func(disguise bool) (api.Claim, api.Errno), want api.Claim, wantErr api.Errno) {
	t.Helper()
	got, err := call(false)
	expect(t, what, got, err, want, wantErr)
	got, err = call(true)
	if err == api.OK {
		got = canonical(got)
	}
	expect(t, what+", not canonical", got, err, want, wantErr)
}

// either returns c or a claim equal to it that is not canonical.
func either(c api.Claim, disguise bool) api.Claim {
	if disguise {
		return disguisedClaim(c)
	}
	return c
}

// P6.8: Goal.
func TestGoal(t *testing.T) {
	for _, c := range []struct {
		claim, goal string
		want        api.Claim
	}{
		{"x >= 0 for x in [0, 1]", "x^2 > 0", made("x^2 > 0", "x [0, 1]")},
		{"x > 0 for x in [0, 1]", "1/3 >= 0", made("1/3 >= 0", "x [0, 1]")},
		{"x > 0 for x in (-inf, 1/2], y in [1, inf) where y > x, 1 >= x", "x - y > 0", made("x - y > 0", "x (-inf, 1/2]; y [1, inf)", "y - x > 0", "1 - x >= 0")},
		{"1 >= 0", "2 >= 0", made("2 >= 0", "")},
	} {
		k := rel(c.goal)
		expectSame(t, "Goal("+c.claim+", "+c.goal+")", func(disguise bool) (api.Claim, api.Errno) {
			return claim.Goal(either(cl(c.claim), disguise), either(api.Claim{Goal: k.E}, disguise).Goal, k.Strict)
		}, c.want, api.OK)
	}
	e := ex(fillerText(300, "x"))
	got, err := claim.Goal(made("1 > 0", "x [0, 1]"), e, true)
	expect(t, "Goal of MaxNodes nodes", got, err, made(fillerText(300, "x")+" > 0", "x [0, 1]"), api.OK)
}

// P6.8: Assume.
func TestAssume(t *testing.T) {
	for _, c := range []struct {
		claim, cond string
		want        api.Claim
	}{
		{"x >= 0 for x in [0, 1]", "x^2 > 0", made("x >= 0", "x [0, 1]", "x^2 > 0")},
		{"x > 0 for x in (-inf, 1/2], y in [1, inf) where y > x, 1 >= x", "x - y >= 0", made("x > 0", "x (-inf, 1/2]; y [1, inf)", "y - x > 0", "1 - x >= 0", "x - y >= 0")},
		{"1 >= 0 where 2/3 > 0", "2/3 > 0", made("1 >= 0", "", "2/3 > 0", "2/3 > 0")},
		{"1 >= 0 where " + repeated("2 > 0", 11), "1 >= 0", made("1 >= 0", "", append(slices.Repeat([]string{"2 > 0"}, 11), "1 >= 0")...)},
	} {
		k := rel(c.cond)
		expectSame(t, "Assume("+c.claim+", "+c.cond+")", func(disguise bool) (api.Claim, api.Errno) {
			return claim.Assume(either(cl(c.claim), disguise), either(api.Claim{Goal: k.E}, disguise).Goal, k.Strict)
		}, c.want, api.OK)
	}
	got, err := claim.Assume(cl("1 >= 0 where "+repeated("2 > 0", 12)), ex("1"), false)
	expect(t, "Assume with MaxConds conditions", got, err, api.Claim{}, api.ErrLimit)
}

// P6.9: Cut.
func TestCut(t *testing.T) {
	for _, c := range []struct{ sides, name, at, low, high string }{
		{"x [0, 1]", "x", "1/2", "x [0, 1/2]", "x [1/2, 1]"},
		{"x [0, 1]", "x", "2^-2000", "x [0, 2^-2000]", "x [2^-2000, 1]"},
		{"x [-1/3, 1/3]; y [2, 3]; z [4, 5]", "x", "0", "x [-1/3, 0]; y [2, 3]; z [4, 5]", "x [0, 1/3]; y [2, 3]; z [4, 5]"},
		{"x [0, 1]; y [2, 3]; z [4, 5]", "y", "7/3", "x [0, 1]; y [2, 7/3]; z [4, 5]", "x [0, 1]; y [7/3, 3]; z [4, 5]"},
		{"x [0, 1]; y [2, 3]; z [4, 5]", "z", "9/2", "x [0, 1]; y [2, 3]; z [4, 9/2]", "x [0, 1]; y [2, 3]; z [9/2, 5]"},
		{"x [0, inf)", "x", "5", "x [0, 5]", "x [5, inf)"},
		{"x (-inf, 0]", "x", "-5", "x (-inf, -5]", "x [-5, 0]"},
		{"x (-inf, inf)", "x", "0", "x (-inf, 0]", "x [0, inf)"},
		{"x (-inf, inf)", "x", "2^2048-1", "x (-inf, 2^2048-1]", "x [2^2048-1, inf)"},
	} {
		conds := []string{"1/3 > 0", c.name + " >= 0"}
		d := made(c.name+" / 3 > 0", c.sides, conds...)
		for i, sides := range []string{c.low, c.high} {
			expectSame(t, "Cut("+c.sides+", "+c.name+", "+c.at+")", func(disguise bool) (api.Claim, api.Errno) {
				at := rat(c.at)
				if disguise {
					at = disguised(at)
				}
				low, high, err := claim.Cut(either(d, disguise), c.name, at)
				halves := []api.Claim{low, high}
				a, _ := enclose.Find(halves[i].Box, c.name)
				if exact, _ := interval.Canon(a); !sameIv(a, exact) {
					t.Errorf("the side of Cut(%s, %s) is not canonical", c.sides, c.at)
				}
				return halves[i], err
			}, made(c.name+" / 3 > 0", sides, conds...), api.OK)
		}
	}
	for _, c := range [][2]string{
		{"x [0, 1]", "0"}, {"x [0, 1]", "1"}, {"x [0, 1]", "-1"}, {"x [0, 1]", "2"}, {"x [0, 1]", "-2^-2000"}, {"x [5, 5]", "5"}, {"x [5, 5]", "4"}, {"x [0, inf)", "0"}, {"x [0, inf)", "-1/2"}, {"x (-inf, 0]", "0"}, {"x (-inf, 0]", "1/2"}, {"x [1/3, 2/3]", "1/3"}, {"x [1/3, 2/3]", "2/3"}, {"x [0, inf)", "-2^2048-1"},
	} {
		low, high, err := claim.Cut(made("x > 0", c[0]), "x", disguised(rat(c[1])))
		expect(t, "low of Cut("+c[0]+", "+c[1]+")", low, err, api.Claim{}, api.ErrSide)
		expect(t, "high of Cut("+c[0]+", "+c[1]+")", high, err, api.Claim{}, api.ErrSide)
	}
}

// P6.10: Face.
func TestFace(t *testing.T) {
	for _, c := range []struct {
		claim, name string
		upper       bool
		want        api.Claim
	}{
		{"x + y >= 0 for x in [1, 2], y in [0, 1]", "x", false, made("1 + y >= 0", "y [0, 1]")},
		{"x + y >= 0 for x in [1, 2], y in [0, 1]", "x", true, made("2 + y >= 0", "y [0, 1]")},
		{"x + y > 0 for x in [1, 2], y in [0, 1]", "y", true, made("x + 1 > 0", "x [1, 2]")},
		{"x * x - x^2 > 0 for x in [-1/3, inf) where x < 1, 1 >= 0, sin(x) > 0", "x", false, made("-(1/3) * -(1/3) - (-(1/3))^2 > 0", "", "1 - -(1/3) > 0", "1 >= 0", "sin(-(1/3)) > 0")},
		{"x * x - x^2 > 0 for x in (-inf, 0] where x < 1, 1 >= 0, sin(x) > 0", "x", true, made("0 * 0 - 0^2 > 0", "", "1 - 0 > 0", "1 >= 0", "sin(0) > 0")},
		{"x - y + z >= 0 for x in [1, 2], y in [-3, 4], z in [5, 6] where x - y >= z", "y", false, made("x - -3 + z >= 0", "x [1, 2]; z [5, 6]", "x - -3 - z >= 0")},
		{"x >= 0 for x in [7, 7]", "x", false, made("7 >= 0", "")},
		{"x >= 0 for x in [7, 7]", "x", true, made("7 >= 0", "")},
		{"1 >= 0 for x in [1, 2]", "x", true, made("1 >= 0", "")},
	} {
		expectSame(t, "Face("+c.claim+", "+c.name+")", func(disguise bool) (api.Claim, api.Errno) {
			return claim.Face(either(cl(c.claim), disguise), c.name, c.upper)
		}, c.want, api.OK)
	}
	for _, c := range []struct {
		sides string
		upper bool
	}{{"x [0, inf)", true}, {"x (-inf, 0]", false}, {"x (-inf, inf)", true}, {"x (-inf, inf)", false}} {
		got, err := claim.Face(made(towerText(30, "x")+" > 0", c.sides), "x", c.upper)
		expect(t, "Face at an infinite end of "+c.sides, got, err, api.Claim{}, api.ErrForm)
	}
}

// P6.10: the limits of the expressions of a face. The literal of a number below 0 has two nodes.
func TestFaceLimit(t *testing.T) {
	deep, many := towerText(30, "x"), fillerText(300, "x")
	for what, c := range map[string]struct {
		claim        api.Claim
		above, below api.Errno
	}{
		"a deep goal":           {made(deep+" > 0", "x [-1, 1]"), api.OK, api.ErrLimit},
		"a deep condition":      {made("x > 0", "x [-1, 1]", "1 > 0", deep+" > 0"), api.OK, api.ErrLimit},
		"one that is less deep": {made(deep[1:]+" > 0", "x [-1, 1]", deep[1:]+" > 0"), api.OK, api.OK},
		"many nodes":            {made(many+" > 0", "x [-1, 1]"), api.OK, api.ErrLimit},
		"a large condition":     {made("x > 0", "x [-1, 1]", many+" >= 0", "1 > 0"), api.OK, api.ErrLimit},
		"other variables":       {made(strings.ReplaceAll(many, "x", "y")+" > 0", "x [-1, 1]; y [0, 1]", strings.ReplaceAll(deep, "x", "y")+" > 0"), api.OK, api.OK},
	} {
		for _, upper := range []bool{false, true} {
			want := c.below
			if upper {
				want = c.above
			}
			got, err := claim.Face(c.claim, "x", upper)
			if err != want || (err != api.OK) && !isZero(got) || err == api.OK && !claim.Valid(got) {
				t.Errorf("Face of %s: error %d, want %d", what, err, want)
			}
		}
	}
}

// P6.11: Narrow.
func TestNarrow(t *testing.T) {
	for _, c := range []struct {
		sides, name string
		conds       []string
		k, n, p     int
		want        string
	}{
		{"x [0, 4]; y [0, 1]", "x", []string{"1 - x >= 0"}, 0, 4, 3, "x [0, 2]; y [0, 1]"},
		{"x [0, 4]; y [0, 1]", "x", []string{"1 - x > 0"}, 0, 4, 3, "x [0, 1]; y [0, 1]"},
		{"x [0, 4]; y [0, 1]", "x", []string{"x - 3 >= 0"}, 0, 4, 3, "x [2, 4]; y [0, 1]"},
		{"x [0, 4]; y [0, 1]", "x", []string{"x - 3 > 0"}, 0, 4, 3, "x [3, 4]; y [0, 1]"},
		{"x [0, 4]; y [0, 1]", "x", []string{"1 > 0", "x - 3 > 0", "1 - x > 0"}, 1, 4, 3, "x [3, 4]; y [0, 1]"},
		{"x [0, 4]; y [0, 1]", "x", []string{"1 > 0", "x - 3 > 0", "1 - x > 0"}, 2, 4, 3, "x [0, 1]; y [0, 1]"},
		{"x [0, 4]; y [0, 1]", "x", []string{"1 > 0", "x - 3 > 0", "1 - x > 0"}, 0, 4, 3, ""},
		{"x [0, 8]", "x", []string{"x - 3 > 0", "1/4 - (x - 9/2)^2 > 0"}, 1, 8, 8, "x [4, 5]"},
		{"x [0, 8]", "x", []string{"2 - (x - 9/2)^2 > 0"}, 0, 8, 8, "x [3, 6]"},
		{"x [0, 8]", "x", []string{"x - 9 > 0"}, 0, 8, 8, "x [7, 8]"},
		{"x [0, 8]", "x", []string{"-1 - x > 0"}, 0, 8, 8, "x [7, 8]"},
		{"x [0, 8]", "x", []string{"0 > 0"}, 0, 2, 8, "x [4, 8]"},
		{"x [0, 8]", "x", []string{"0 > 0"}, 0, 16, 8, "x [15/2, 8]"},
		{"x [0, 8]", "x", []string{"0 >= 0"}, 0, 16, 8, ""},
		{"x [0, 8]", "x", []string{"(x - 4)^2 - 4 > 0"}, 0, 8, 8, ""},
		{"x [5, 5]", "x", []string{"0 > 0"}, 0, 16, 8, ""},
		{"x [5, 5]", "x", []string{"x - 6 >= 0"}, 0, 2, 8, ""},
		{"x [0, 1]", "x", []string{"1/3 - x >= 0"}, 0, 3, 4, "x [0, 2/3]"},
		{"x [0, 1]", "x", []string{"1/3 - x > 0"}, 0, 3, 4, "x [0, 2/3]"},
		{"x [-1/3, 1]", "x", []string{"-1/2 - x > 0"}, 0, 3, 20, "x [5/9, 1]"},
		{"x [0, 1]", "x", []string{"1/9 - x > 0"}, 0, 2, 0, ""},
		{"x [0, 1]", "x", []string{"1/9 - x > 0"}, 0, 2, 1, "x [0, 1/2]"},
		{"x [0, 4]", "x", []string{"log(x) >= 0"}, 0, 4, 8, ""},
		{"x [0, 4]", "x", []string{"-1 / x > 0"}, 0, 4, 8, "x [0, 1]"},
		{"x [-4, 0]", "x", []string{"1 / x > 0"}, 0, 4, 8, "x [-1, 0]"},
		{"x [0, 4]", "x", []string{"log(x) - 9 >= 0"}, 0, 4, 8, "x [0, 1]"},
		{"x [0, 2]; y [0, inf)", "x", []string{"1/2 - x - y >= 0"}, 0, 2, 4, "x [0, 1]; y [0, inf)"},
		{"x [0, 2]; y (-inf, 0]", "x", []string{"1/2 - x - y >= 0"}, 0, 2, 4, ""},
		{"x [0, 2]; y [0, inf)", "x", []string{"1/2 - x - y >= 0"}, 0, 4, 4, "x [0, 1]; y [0, inf)"},
		{"w (-inf, inf); x [0, 2]; y [0, 3]", "y", []string{"x - y >= 0"}, 0, 6, 4, "w (-inf, inf); x [0, 2]; y [0, 5/2]"},
		{"w (-inf, inf); x [0, 2]; y [0, 3]", "y", []string{"x - y > 0"}, 0, 6, 4, "w (-inf, inf); x [0, 2]; y [0, 2]"},
		{"x [0, 2]; y [0, 3]", "x", []string{"y - 4 >= 0"}, 0, 2, 4, "x [1, 2]; y [0, 3]"},
	} {
		want, smaller := c.want, true
		if want == "" {
			want, smaller = c.sides, false
		}
		expectSame(t, "Narrow("+c.sides+", "+strings.Join(c.conds, ", ")+")", func(disguise bool) (api.Claim, api.Errno) {
			got, ok, err := claim.Narrow(either(made("1/3 > 0", c.sides, c.conds...), disguise), c.k, c.name, c.n, c.p)
			if ok != smaller {
				t.Errorf("Narrow(%s, %v) returns %v", c.sides, c.conds, ok)
			}
			return got, err
		}, made("1/3 > 0", want, c.conds...), api.OK)
	}
}

// P6.11: the errors of Narrow.
func TestNarrowErrors(t *testing.T) {
	for _, c := range []struct {
		sides   string
		k, n, p int
		err     api.Errno
	}{
		{"x [0, 1]", -1, 2, 4, api.ErrArg}, {"x [0, 1]", 2, 2, 4, api.ErrArg}, {"x [0, 1]", 1 << 62, 2, 4, api.ErrArg}, {"x [0, 1]", -1 << 63, 2, 4, api.ErrArg}, {"x [0, 1]", 0, 1, 4, api.ErrArg}, {"x [0, 1]", 0, 0, 4, api.ErrArg}, {"x [0, 1]", 0, -2, 4, api.ErrArg}, {"x [0, 1]", 0, 17, 4, api.ErrArg}, {"x [0, 1]", 0, 1<<63 - 1, 4, api.ErrArg}, {"x [0, 1]", 0, 2, -1, api.ErrArg}, {"x [0, 1]", 0, 2, 129, api.ErrArg}, {"x [0, 1]", 1, 16, 128, api.OK}, {"x [0, 1]", 0, 2, 0, api.OK},
		{"x [0, inf)", 2, 2, 4, api.ErrArg}, {"x [0, inf)", 0, 1, 4, api.ErrArg}, {"x [0, inf)", 0, 2, 129, api.ErrArg}, {"x [0, inf)", 0, 2, 4, api.ErrEdge}, {"x (-inf, 0]", 0, 2, 4, api.ErrEdge}, {"x (-inf, inf)", 0, 2, 4, api.ErrEdge}, {"x [2^2048-1, inf)", 0, 2, 4, api.ErrEdge},
		{"x [-1, 2^2048-1]", 0, 2, 4, api.ErrSize}, {"x [0, 2^-2047]", 0, 2, 4, api.ErrSize}, {"x [0, 2^-2047]", 0, 3, 4, api.ErrSize}, {"x [0, 2^-2046]", 0, 2, 4, api.OK}, {"x [0, 2^-2046]", 0, 4, 4, api.ErrSize}, {"x [2^2047, 2^2048-1]", 0, 2, 4, api.ErrSize}, {"x [0, 2^2048-1]", 0, 2, 4, api.OK}, {"x [1/3, 2^2047]", 0, 2, 4, api.ErrSize}, {"x [2^-2047, 2^-2047]", 0, 16, 4, api.OK},
		{"w [0, inf); x [0, 1]", 0, 2, 4, api.OK}, {"w [2^-2047, 2^2047]; x [0, 1]", 0, 2, 4, api.OK},
	} {
		got, ok, err := claim.Narrow(made("1 > 0", c.sides, "x > 0", "1 / 0 > 0"), c.k, "x", c.n, c.p)
		if err != c.err || err != api.OK && (ok || !isZero(got)) {
			t.Errorf("Narrow(%s, %d, %d, %d): %v, error %d, want %d", c.sides, c.k, c.n, c.p, ok, err, c.err)
		}
	}
	if _, _, err := claim.Narrow(made("1 > 0", "x [0, 1]"), 0, "x", 2, 4); err != api.ErrArg {
		t.Errorf("Narrow without conditions: error %d", err)
	}
}

// P6.11: the points are formed ahead, also those between parts that stay. Here the one in the middle alone is large.
func TestNarrowAhead(t *testing.T) {
	sum := func(k api.Rat, n int, more string) api.Rat { // k * n + more
		x, err := number.Mul(k, number.FromInt(n))
		y, err2 := number.Add(x, rat(more))
		if err != api.OK || err2 != api.OK {
			t.Fatalf("a number of the test has the errors %d and %d", err, err2)
		}
		return y
	}
	k, _ := number.Div(rat("2^2047"), number.FromInt(6))
	k, _ = number.Floor(k)
	c := made("1 > 0", "", "1 > 0")
	c.Box = []api.Side{{Name: "x", Iv: api.Interval{Lo: sum(k, -4, "-1999/2"), Hi: rat("-6001/6")}}}
	sum(k, -3, "-2999/3") // the first point
	sum(k, -1, "-1000")   // the third one
	if _, err := number.Add(sum(k, -2, "0"), rat("-5999/6")); err != api.ErrSize {
		t.Fatalf("the point in the middle has the error %d", err)
	}
	got, smaller, err := claim.Narrow(c, 0, "x", 4, 4)
	expect(t, "Narrow with a large point in the middle", got, err, api.Claim{}, api.ErrSize)
	got, smaller2, err := claim.Narrow(c, 0, "x", 2, 4)
	expect(t, "Narrow at the large point", got, err, api.Claim{}, api.ErrSize)
	if smaller || smaller2 {
		t.Error("true together with an error")
	}
}

// fails reports whether a condition fails on a box, with the words of the chapter's terms.
func fails(k api.Cond, b []api.Side, p int) bool {
	a, err := enclose.Range(k.E, b, p)
	if err != api.OK {
		return false
	}
	sign, _ := interval.Sign(a)
	return state(sign, k.Strict) == -1
}

// P6.11: Narrow on random claims, against the words of the promise.
func TestNarrowRandom(t *testing.T) {
	narrowed := 0
	sources(71, 1000, func(s source) {
		c := s.claim()
		if len(c.Conds) == 0 || len(c.Box) == 0 {
			return
		}
		i, k, n, p := s.Intn(len(c.Box)), s.Intn(len(c.Conds)), 2+s.Intn(6), s.Intn(9)
		side := c.Box[i]
		got, smaller, err := claim.Narrow(c, k, side.Name, n, p)
		if side.Iv.LoInf || side.Iv.HiInf {
			expect(t, "Narrow of an unbounded side", got, err, api.Claim{}, api.ErrEdge)
			return
		}
		length, _ := number.Sub(side.Iv.Hi, side.Iv.Lo)
		var parts []api.Interval
		low := side.Iv.Lo
		for j := 1; j <= n; j++ {
			share, _ := number.Div(number.FromInt(j), number.FromInt(n))
			offset, _ := number.Mul(length, share)
			high, _ := number.Add(side.Iv.Lo, offset)
			parts = append(parts, api.Interval{Lo: low, Hi: high})
			low = high
		}
		failsOn := func(a api.Interval) bool {
			b := slices.Clone(c.Box)
			b[i].Iv = a
			return fails(c.Conds[k], b, p)
		}
		for len(parts) > 1 && failsOn(parts[0]) {
			parts = parts[1:]
		}
		for len(parts) > 1 && failsOn(parts[len(parts)-1]) {
			parts = parts[:len(parts)-1]
		}
		want := canonical(c)
		want.Box[i].Iv = api.Interval{Lo: parts[0].Lo, Hi: parts[len(parts)-1].Hi}
		expect(t, "Narrow("+show(c)+")", got, err, want, api.OK)
		if smaller != !sameIv(want.Box[i].Iv, side.Iv) {
			t.Errorf("Narrow(%s) returns %v", show(c), smaller)
		}
		if smaller {
			narrowed++
		}
	})
	if narrowed < 100 {
		t.Errorf("only %d are narrowed", narrowed)
	}
}
