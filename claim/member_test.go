package claim_test

import (
	"testing"

	"inequality/api"
	"inequality/claim"
	"inequality/enclose"
	"inequality/expr"
	"inequality/interval"
	"inequality/number"
)

// P6.6: points in and out of boxes, for claims without conditions.
func TestMemberBox(t *testing.T) {
	for _, c := range []struct {
		sides, at string
		want      int
	}{
		{"", "", 1}, {"x [0, 1]", "x 0", 1}, {"x [0, 1]", "x 1", 1}, {"x [0, 1]", "x 1/3", 1}, {"x [0, 1]", "x -1/9", -1}, {"x [0, 1]", "x 9/8", -1}, {"x [1/3, 1/3]", "x 1/3", 1}, {"x [1/3, 1/3]", "x 1/2", -1}, {"x [0, 1]", "x 2^-1000", 1}, {"x [0, 1]", "x -2^-1000", -1},
		{"x [0, 1]", "", -1}, {"x [0, 1]", "y 0", -1}, {"x [0, 1]", "x 0; y 0", -1}, {"x [0, 1]", "a 0; x 0", -1}, {"", "x 0", -1}, {"x [0, 1]; y [2, 3]", "x 0; y 2", 1}, {"x [0, 1]; y [2, 3]", "x 0", -1}, {"x [0, 1]; y [2, 3]", "x 0; y 1", -1}, {"x [0, 1]; y [2, 3]", "x 2; y 2", -1}, {"x [0, 1]; y [2, 3]", "x 1; y 2; z 0", -1},
		{"x (-inf, inf)", "x 2^2000", 1}, {"x [0, inf)", "x 0", 1}, {"x [0, inf)", "x -1", -1}, {"x (-inf, 0]", "x -2^2000", 1}, {"x (-inf, 0]", "x 0", 1}, {"x (-inf, 0]", "x 1/9", -1}, {"a [0, 1]; b [0, 1]; c [0, 1]; d [0, 1]; e [0, 1]; f [0, 1]", "a 0; b 0; c 0; d 1; e 1; f 1/2", 1},
	} {
		for _, p := range []int{0, 4, api.MaxPrec} {
			b := made("1 / 0 >= 0", c.sides) // the goal does not matter
			if got, err := claim.Member(disguisedClaim(b), disguisedPoint(pt(c.at)), p); got != c.want || err != api.OK {
				t.Errorf("Member(%s, %s, %d) is %d, error %d", show(b), c.at, p, got, err)
			}
			if got, err := claim.Member(made("1 > 0", c.sides, "1 > 0"), pt(c.at), p); got != c.want || err != api.OK {
				t.Errorf("Member(%s, %s, %d) with a condition is %d, error %d", show(b), c.at, p, got, err)
			}
		}
	}
}

// conditions are conditions on x in [-9, 9], with what Member returns where x has a value.
var conditions = []struct {
	x    string
	p    int
	cond string
	want int
}{
	{"1", 4, "x > 0", 1}, {"1", 4, "x >= 0", 1}, {"0", 4, "x >= 0", 1}, {"0", 4, "x > 0", -1}, {"-1", 4, "x >= 0", -1}, {"-1", 4, "x > 0", -1},
	{"1", 0, "x / 3 >= 0", 1}, {"1", 0, "x / 3 > 0", 0}, {"1", 2, "x / 3 > 0", 1}, {"1", 0, "-(x / 3) >= 0", 0}, {"1", 0, "-(x / 3) > 0", -1}, {"1", 2, "-(x / 3) >= 0", -1}, {"1", 128, "x / 3 - 1/3 >= 0", 0}, {"1", 128, "x / 3 - 1/3 > 0", 0}, {"1", 128, "3 * x - 3 >= 0", 1}, {"1", 128, "3 * x - 3 > 0", -1},
	{"1/3", 3, "x - 1/4 >= 0", 1}, {"1/3", 3, "x - 1/4 > 0", 0}, {"1/3", 4, "x - 1/4 > 0", 1}, {"1/3", 2, "1/4 - x >= 0", 0}, {"1/3", 2, "1/4 - x > 0", -1}, {"1/3", 3, "1/2 - x > 0", 1},
	{"0", 4, "1 / x > 0", 0}, {"0", 4, "log(x) >= 0", 0}, {"0", 4, "-log(x) > 0", 0}, {"-1", 4, "sqrt(x) >= 0", 0}, {"9", 4, "exp(8 * x) > 0", 0}, {"0", 4, "0 / x >= 0", 0}, {"2", 4, "1 / x > 0", 1}, {"2", 4, "asin(x) - 9 > 0", 0},
	{"0", 4, "if(x, 1, log(x)) > 0", 1}, {"-1", 4, "if(x, 1, log(x)) > 0", 0}, {"-1", 4, "if(x, 1, -1) >= 0", -1}, {"2", 8, "sin(x) > 0", 1}, {"4", 8, "sin(x) > 0", -1}, {"0", 8, "sin(x) > 0", -1}, {"0", 8, "sin(x) >= 0", 1}, {"2", 0, "pi - x > 0", 1}, {"2", 0, "x - pi >= 0", -1}, {"3", 0, "pi - x > 0", 0}, {"3", 1, "pi - x >= 0", 1}, {"3", 3, "pi - x > 0", 1},
}

// P6.6: conditions that are shown, that fail, and that are neither, also together.
func TestMemberConds(t *testing.T) {
	for _, c := range conditions {
		at := pt("x " + c.x)
		d := made("x > 0", "x [-9, 9]", c.cond)
		if got, err := claim.Member(disguisedClaim(d), disguisedPoint(at), c.p); got != c.want || err != api.OK {
			t.Errorf("Member(%s, %s, %d) is %d, error %d; want %d", show(d), c.x, c.p, got, err, c.want)
		}
		for _, other := range conditions {
			if other.x != c.x || other.p != c.p {
				continue
			}
			want := min(c.want, other.want)
			d := made("1 > 0", "x [-9, 9]", "1 >= 0", c.cond, "1 > 0", other.cond)
			if got, err := claim.Member(d, at, c.p); got != want || err != api.OK {
				t.Errorf("Member(%s, %s, %d) is %d, error %d; want %d", show(d), c.x, c.p, got, err, want)
			}
			if got, err := claim.Member(d, pt("x -10"), c.p); got != -1 || err != api.OK {
				t.Errorf("Member(%s, -10, %d) is %d, error %d", show(d), c.p, got, err)
			}
		}
	}
}

// P6.7: a goal is refuted exactly where a condition of the same form would fail, if Member is 1.
func TestRefutes(t *testing.T) {
	for _, c := range conditions {
		at := pt("x " + c.x)
		for _, extra := range []struct {
			conds  []string
			member int
		}{{nil, 1}, {[]string{"1 > 0", "9 - x >= 0"}, 1}, {[]string{"1 > 0", "1 / 0 >= 0"}, 0}, {[]string{"0 > 0"}, -1}, {[]string{"1 / 0 >= 0", "x - 10 > 0"}, -1}} {
			d := made(c.cond, "x [-9, 9]", extra.conds...)
			want := c.want == -1 && extra.member == 1
			if got, err := claim.Refutes(disguisedClaim(d), disguisedPoint(at), c.p); got != want || err != api.OK {
				t.Errorf("Refutes(%s, %s, %d) is %v, error %d", show(d), c.x, c.p, got, err)
			}
			if got, err := claim.Refutes(d, pt("x 10"), c.p); got || err != api.OK {
				t.Errorf("Refutes(%s, 10, %d) is %v, error %d", show(d), c.p, got, err)
			}
		}
	}
	for text, want := range map[string]bool{"x^2 > 0 for x in [-1, 1]": true, "x^2 >= 0 for x in [-1, 1]": false} {
		if got, err := claim.Refutes(cl(text), pt("x 0"), 4); got != want || err != api.OK {
			t.Errorf("Refutes of %s is %v, error %d", text, got, err)
		}
	}
	for goal, want := range map[string]bool{"1 > 0": false, "0 > 0": true, "0 >= 0": false, "-1 >= 0": true, "log(0) > 0": false} {
		if got, err := claim.Refutes(made(goal, ""), nil, 4); got != want || err != api.OK {
			t.Errorf("Refutes of %s without sides is %v, error %d", goal, got, err)
		}
	}
	if got, err := claim.Refutes(cl("log(x) <= x - 1 for x in [1/2, 1]"), pt("x 1"), 20); got || err != api.OK {
		t.Errorf("the claim that is 0 on both sides: Refutes is %v, error %d", got, err)
	}
}

// signOf returns the sign of Range at a point, or SignMixed if it has an error.
func signOf(e api.Expr, b []api.Side, at []api.Value, p int) int {
	here, _ := enclose.At(b, at)
	a, err := enclose.Range(e, here, p)
	if err != api.OK {
		return api.SignMixed
	}
	sign, _ := interval.Sign(a)
	return sign
}

// state returns 1, -1 or 0 if a sign shows a condition, refutes it, or does neither.
func state(sign int, strict bool) int {
	switch {
	case sign == api.SignPos, !strict && (sign == api.SignNonNeg || sign == api.SignZero):
		return 1
	case sign == api.SignNeg, strict && (sign == api.SignNonPos || sign == api.SignZero):
		return -1
	}
	return 0
}

// P6.6, P6.7: random claims and points, with the words of the promises.
func TestMemberRandom(t *testing.T) {
	members, refuted := 0, 0
	sources(51, 1500, func(s source) {
		c := s.claim()
		at, p := s.point(c.Box), s.Intn(9)
		want := 1
		if in, _ := enclose.Holds(c.Box, at); !in {
			want = -1
		}
		for _, k := range c.Conds {
			want = min(want, state(signOf(k.E, c.Box, at, p), k.Strict))
		}
		refutes := want == 1 && state(signOf(c.Goal, c.Box, at, p), c.Strict) == -1
		got, err := claim.Member(c, at, p)
		gotRefutes, err2 := claim.Refutes(c, at, p)
		if got != want || gotRefutes != refutes || err != api.OK || err2 != api.OK {
			t.Errorf("Member and Refutes(%s, %v, %d) are %d and %v", show(c), at, p, got, gotRefutes)
		}
		if want == 1 {
			members++
		}
		if refutes {
			refuted++
		}
	})
	if members < 500 || refuted < 100 {
		t.Errorf("only %d members and %d refutations", members, refuted)
	}
}

// P6.16: precisions do not contradict each other, and what is refuted is violated.
func TestPoints(t *testing.T) {
	sources(61, 400, func(s source) {
		c := s.claim()
		at := s.point(c.Box)
		seen := map[int]bool{}
		for _, p := range []int{0, 1, 2, 5, 30} {
			member, _ := claim.Member(c, at, p)
			seen[member] = true
			refutes, _ := claim.Refutes(c, at, p)
			v, ok, _ := expr.Value(c.Goal, at)
			sign, _ := number.Sign(v)
			if refutes && ok && (sign > 0 || sign == 0 && !c.Strict) {
				t.Errorf("Refutes(%s, %v, %d), but the value is %v", show(c), at, p, v)
			}
		}
		if seen[1] && seen[-1] {
			t.Errorf("Member(%s, %v) is both 1 and -1", show(c), at)
		}
	})
}
