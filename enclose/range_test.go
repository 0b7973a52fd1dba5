package enclose_test

import (
	"fmt"
	"testing"

	"inequality/api"
	"inequality/elem"
	"inequality/enclose"
)

// P5.5: the kinds of nodes.
func TestRange(t *testing.T) {
	for _, c := range []struct {
		e, b string
		p    int
		want string
	}{
		{"x - x", "x [0, 1]", 4, "[-1, 1]"}, {"x^2", "x [-1, 2]", 3, "[0, 4]"}, {"if(x, 1, log(x))", "x [0, 1]", 3, "[1, 1]"},
		{"1/3", "", 2, "[1/4, 1/2]"}, {"2", "", 0, "[2, 2]"}, {"0.75", "x [0, 1]", 2, "[3/4, 3/4]"}, {"x", "x [1/3, 2/3]", 2, "[1/4, 3/4]"}, {"x", "x [1/3, inf)", 1, "[0, inf)"}, {"x", "x (-inf, inf)", 1, "(-inf, inf)"}, {"y", "x [0, 1]; y [5, 6]; z [0, 1]", 9, "[5, 6]"},
		{"pi", "", 0, "[3, 4]"}, {"pi", "", 2, "[3, 13/4]"}, {"-pi", "", 2, "[-13/4, -3]"}, {"-x", "x [1/3, 1]", 1, "[-1, 0]"},
		{"x + y", "x [1, 2]; y [1/3, 1/2]", 1, "[1, 5/2]"}, {"x + 1/3", "x [0, inf)", 2, "[1/4, inf)"}, {"x - y", "x [1, 2]; y [3, 5]", 0, "[-4, -1]"}, {"x * y", "x [-1, 2]; y [-3, 4]", 0, "[-6, 8]"}, {"x / y", "x [1, 1]; y [3, 4]", 2, "[1/4, 1/2]"}, {"x / y", "x [1, 1]; y [2, inf)", 4, "[0, 1/2]"},
		{"x^3", "x [-2, 1]", 0, "[-8, 1]"}, {"x^-1", "x [2, inf)", 3, "[0, 1/2]"}, {"x^0", "x [-2, 1]", 0, "[1, 1]"}, {"(x - x)^0", "x [-2, 1]", 0, "[1, 1]"},
		{"sqrt(x)", "x [0, 2]", 2, "[0, 3/2]"}, {"root(3, x)", "x [-8, 27]", 2, "[-2, 3]"}, {"exp(x)", "x (-inf, 0]", 4, "[0, 1]"}, {"sin(x)", "x [1, 2]", 2, "[3/4, 1]"}, {"sin(x) + 2", "x (-inf, inf)", 8, "[1, 3]"}, {"log(x)", "x [1, 2]", 2, "[0, 3/4]"}, {"cos(x)", "x [0, 4]", 0, "[-1, 1]"}, {"tan(x)", "x [0, 1]", 1, "[0, 2]"}, {"asin(x)", "x [-1, 1]", 1, "[-2, 2]"}, {"acos(x)", "x [0, 1]", 1, "[0, 2]"}, {"atan(x)", "x (-inf, inf)", 4, "[-13/8, 13/8]"},
		{"abs(x)", "x [-1, 2]", 0, "[0, 2]"}, {"abs(x)", "x (-inf, -1]", 0, "[1, inf)"}, {"min(x, y)", "x [1, 4]; y [2, 3]", 0, "[1, 3]"}, {"max(x, y)", "x [1, 4]; y [2, 3]", 0, "[2, 4]"}, {"min(x, y)", "x [2, 3]; y (-inf, 5]", 0, "(-inf, 3]"},
		{"x^2 - x + 1", "x [0, 1]", 4, "[0, 2]"}, {"x * (x - 1)", "x [0, 1]", 4, "[-1, 0]"},
	} {
		got, err := enclose.Range(ex(c.e), box(c.b), c.p)
		expect(t, fmt.Sprintf("Range(%s, %s, %d)", c.e, c.b, c.p), got, err, iv(c.want), api.OK)
	}
	for _, p := range []int{0, 1, 64, api.MaxPrec} {
		pi, _ := elem.Pi(p)
		got, err := enclose.Range(ex("pi"), nil, p)
		expect(t, "Range of pi", got, err, api.Interval{Lo: pi.Lo, Hi: pi.Hi}, api.OK)
	}
}

// P5.5: the cases of an OpIf; the one that is not needed is not formed.
func TestRangeIf(t *testing.T) {
	for _, c := range []struct {
		e, b string
		want string
		err  api.Errno
	}{
		{"if(x, 1, 2)", "x [0, 1]", "[1, 1]", api.OK}, {"if(x, 1, 2)", "x [0, 0]", "[1, 1]", api.OK}, {"if(x, 1, 2)", "x [1/2, 1]", "[1, 1]", api.OK}, {"if(x, 1, 2)", "x [0, inf)", "[1, 1]", api.OK}, {"if(x, 1, 2)", "x [-2, -1]", "[2, 2]", api.OK}, {"if(x, 1, 2)", "x (-inf, -1]", "[2, 2]", api.OK},
		{"if(x, 1, 2)", "x [-1, 0]", "[1, 2]", api.OK}, {"if(x, 1, 2)", "x [-1, 1]", "[1, 2]", api.OK}, {"if(x, 4, 2)", "x (-inf, inf)", "[2, 4]", api.OK}, {"if(x, 5, y)", "x [-1, 0]; y [7, inf)", "[5, inf)", api.OK},
		{"if(x - 1, 1, log(x))", "x [0, 1]", "", api.ErrDomain}, {"if(x, log(-x), 1)", "x [-1, 0]", "", api.ErrDomain}, {"if(x, log(-x), 1)", "x [-2, -1]", "[1, 1]", api.OK}, {"if(x, 1, 1 / 0)", "x [0, 1]", "[1, 1]", api.OK}, {"if(log(x), 1, 1)", "x [0, 1]", "", api.ErrDomain}, {"if(x, 1 / (x - x), exp(100))", "x [-1, 1]", "", api.ErrDomain}, {"if(x, exp(100), 1 / (x - x))", "x [-1, 1]", "", api.ErrRange},
	} {
		got, err := enclose.Range(ex(c.e), box(c.b), 3)
		want := api.Interval{}
		if c.err == api.OK {
			want = iv(c.want)
		}
		expect(t, fmt.Sprintf("Range(%s, %s, 3)", c.e, c.b), got, err, want, c.err)
	}
}

// P5.5 and P5.1: the first error of an operation from the left to the right, with ErrDomain for a division by 0.
func TestRangeErrors(t *testing.T) {
	const domain, size, ranged = api.ErrDomain, api.ErrSize, api.ErrRange
	for _, c := range []struct {
		e, b string
		err  api.Errno
	}{
		{"1 / x", "x [0, 1]", domain}, {"1 / x", "x [-1, 1]", domain}, {"x^-1", "x [0, 1]", domain}, {"0 / 0", "", domain}, {"log(x)", "x [0, 1]", domain}, {"sqrt(x)", "x [-1, 1]", domain}, {"asin(x)", "x [0, 2]", domain}, {"tan(x)", "x [1, 2]", domain}, {"tan(x)", "x [1, inf)", domain},
		{"exp(x)", "x [0, 65]", ranged}, {"sin(x)", "x [0, 5000000000]", ranged}, {"exp(x) + log(x)", "x [0, 65]", ranged}, {"log(x) + exp(x)", "x [0, 65]", domain}, {"exp(65) / 0", "", ranged}, {"(x / 0) * exp(65)", "x [0, 1]", domain}, {"abs(exp(log(x)))", "x [0, 65]", domain},
		{"x^32", "x [2^65, 2^65]", size}, {"x^32 + 1 / 0", "x [2^65, 2^65]", size}, {"1 / 0 + x^32", "x [2^65, 2^65]", domain}, {"x + x", "x [0, 2^2047]", size}, {"log(y) + min(x + x, 1)", "x [0, 2^2047]; y [0, 1]", domain}, {"max(x + x, log(y))", "x [0, 2^2047]; y [0, 1]", size}, {"0 * (1 / x)", "x [0, 1]", domain}, {"exp(x)^0", "x [0, 65]", ranged},
	} {
		got, err := enclose.Range(ex(c.e), box(c.b), 3)
		expect(t, fmt.Sprintf("Range(%s, %s, 3)", c.e, c.b), got, err, api.Interval{}, c.err)
	}
	third := api.Expr{Op: api.OpNum, Num: canonical(rational("2^2048-1"))}
	third.Num.Den = []uint32{7}
	got, err := enclose.Range(third, nil, api.MaxPrec)
	expect(t, "Range of a number whose bounds are large", got, err, api.Interval{}, size)
	got, err = enclose.Range(ex("x"), []api.Side{{Name: "x", Iv: api.Interval{Lo: rat("0"), Hi: third.Num}}}, api.MaxPrec)
	expect(t, "Range of a side whose bounds are large", got, err, api.Interval{}, size)
}
