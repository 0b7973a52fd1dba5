package enclose_test

import (
	"fmt"
	"math/rand"
	"testing"

	"inequality/api"
	"inequality/enclose"
	"inequality/interval"
)

// P5.6: Gradient and Hessian.
func TestGradientHessian(t *testing.T) {
	for _, c := range []struct{ e, b, gradient, hessian string }{
		{"x^2", "x [-1, 2]", "[-2, 4]", "[2, 2]"},
		{"x * y", "x [0, 2]; y [1, 3]", "[1, 3]; [0, 2]", "[0, 0]; [1, 1]; [1, 1]; [0, 0]"},
		{"x^2 * y + y^3", "x [0, 2]; y [1, 3]", "[0, 12]; [3, 31]", "[2, 6]; [0, 4]; [0, 4]; [6, 18]"},
		{"y", "x [0, 1]; y [0, 1]; z [0, 1]", "[0, 0]; [1, 1]; [0, 0]", "[0, 0]; [0, 0]; [0, 0]; [0, 0]; [0, 0]; [0, 0]; [0, 0]; [0, 0]; [0, 0]"},
		{"x * z", "x [0, 1]; z [0, inf)", "[0, inf); [0, 1]", "[0, 0]; [1, 1]; [1, 1]; [0, 0]"},
		{"sin(x)", "x [0, 1]", "[1/2, 1]", "[-1, 0]"},
		{"x^2", "x (-inf, inf)", "(-inf, inf)", "[2, 2]"},
		{"x * y * z", "x [1, 2]; y [3, 4]; z [5, 6]", "[15, 24]; [5, 12]; [3, 8]", "[0, 0]; [5, 6]; [3, 4]; [5, 6]; [0, 0]; [1, 2]; [3, 4]; [1, 2]; [0, 0]"},
	} {
		if got, err := enclose.Gradient(ex(c.e), box(c.b), 2); ivsText(got) != ivsText(ivs(c.gradient)) || err != api.OK {
			t.Errorf("Gradient(%s, %s, 2) is %s, error %d", c.e, c.b, ivsText(got), err)
		}
		got, err := enclose.Hessian(ex(c.e), box(c.b), 2)
		var flat []api.Interval
		for _, row := range got {
			flat = append(flat, row...)
		}
		if ivsText(flat) != ivsText(ivs(c.hessian)) || len(got) != len(box(c.b)) || err != api.OK {
			t.Errorf("Hessian(%s, %s, 2) is %s, error %d", c.e, c.b, ivsText(flat), err)
		}
	}
	if got, err := enclose.Gradient(ex("2"), nil, 2); len(got) != 0 || err != api.OK {
		t.Errorf("Gradient without sides is %v, error %d", got, err)
	}
	if got, err := enclose.Hessian(ex("2"), nil, 2); len(got) != 0 || err != api.OK {
		t.Errorf("Hessian without sides is %v, error %d", got, err)
	}
	six := box("a [0, 1]; b [0, 1]; c [0, 1]; d [0, 1]; e [0, 1]; f [0, 1]")
	h, err := enclose.Hessian(ex("a * b + 2 * a * c + 3 * b * f + 4 * d^2 + 5 * e * f"), six, 3)
	if err != api.OK || len(h) != 6 {
		t.Fatalf("Hessian of six sides has %d rows, error %d", len(h), err)
	}
	for i, row := range [][]string{{"0", "1", "2", "0", "0", "0"}, {"1", "0", "0", "0", "0", "3"}, {"2", "0", "0", "0", "0", "0"}, {"0", "0", "0", "8", "0", "0"}, {"0", "0", "0", "0", "0", "5"}, {"0", "3", "0", "0", "5", "0"}} {
		for j, x := range row {
			if !sameIv(h[i][j], iv("["+x+", "+x+"]")) {
				t.Errorf("entry %d, %d of the Hessian of six sides is %s", i, j, ivText(h[i][j]))
			}
		}
	}
}

// P5.7 and P5.8: Mean and Taylor.
func TestMeanTaylor(t *testing.T) {
	for _, c := range []struct {
		e, b         string
		p            int
		mean, taylor string
	}{
		{"x - x", "x [0, 1]", 4, "[0, 0]", "[0, 0]"}, {"x^2", "x [0, 2]", 4, "[-3, 5]", "[-1, 4]"}, {"x^2 - x + 1", "x [0, 1]", 4, "[1/4, 5/4]", "[3/4, 1]"}, {"x", "x [0, 1]", 0, "[-1, 2]", "[-1, 2]"}, {"x", "x [0, 1]", 1, "[0, 1]", "[0, 1]"},
		{"x * y", "x [0, 2]; y [0, 2]", 4, "[-3, 5]", "[-2, 4]"}, {"x^2 + x * y", "x [0, 2]; y [0, 2]", 2, "[-6, 10]", "[-3, 8]"}, {"7/8", "", 3, "[7/8, 7/8]", "[7/8, 7/8]"}, {"1/3", "x [0, 1]", 1, "[0, 1/2]", "[0, 1/2]"}, {"x^2", "x [3, 3]", 0, "[9, 9]", "[9, 9]"}, {"x^2", "x [0, 1]", 1, "[-1, 3/2]", "[-1/2, 3/2]"}, {"exp(x) - (1 + x)", "x [-1, 1]", 8, "[-55/32, 55/32]", "[0, 87/64]"},
	} {
		got, err := enclose.Mean(ex(c.e), box(c.b), c.p)
		expect(t, fmt.Sprintf("Mean(%s, %s, %d)", c.e, c.b, c.p), got, err, iv(c.mean), api.OK)
		got, err = enclose.Taylor(ex(c.e), box(c.b), c.p)
		expect(t, fmt.Sprintf("Taylor(%s, %s, %d)", c.e, c.b, c.p), got, err, iv(c.taylor), api.OK)
	}
}

// P5.9 and P5.10: Line, and its range.
func TestLine(t *testing.T) {
	for _, c := range []struct {
		e, b     string
		p        int
		constant string
		slopes   []string
		spread   string
	}{
		{"x * y", "x [0, 2]; y [0, 2]", 4, "[0, 2]", []string{"1", "1"}, "[-2, 4]"},
		{"1/3", "", 2, "[1/4, 1/2]", nil, "[1/4, 1/2]"}, {"1/3", "x [0, 1]", 2, "[1/4, 1/2]", []string{"0"}, "[1/4, 1/2]"}, {"pi", "x [0, 1]", 2, "[3, 13/4]", []string{"0"}, "[3, 13/4]"},
		{"x", "x [0, 1]", 2, "[1/2, 1/2]", []string{"1"}, "[0, 1]"}, {"x", "x [0, 1]", 0, "[0, 1]", []string{"1"}, "[-1, 2]"}, {"y", "x [0, 1]; y [2, 4]; z [0, 1]", 2, "[3, 3]", []string{"0", "1", "0"}, "[2, 4]"},
		{"-x", "x [0, 1]", 2, "[-1/2, -1/2]", []string{"-1"}, "[-1, 0]"}, {"x - x", "x [0, 1]", 2, "[0, 0]", []string{"0"}, "[0, 0]"}, {"x + y - 3 * x", "x [0, 2]; y [0, 4]", 2, "[0, 0]", []string{"-2", "1"}, "[-4, 4]"}, {"-(x - y)", "x [0, 2]; y [0, 4]", 2, "[1, 1]", []string{"-1", "1"}, "[-2, 4]"},
		{"x * x", "x [0, 2]", 4, "[0, 2]", []string{"2"}, "[-2, 4]"}, {"1/3 * x", "x [0, 1]", 2, "[-1/4, 1/2]", []string{"1/4"}, "[-1/2, 3/4]"},
		{"x^2", "x [0, 2]", 4, "[0, 4]", []string{"0"}, "[0, 4]"}, {"x / y", "x [0, 2]; y [1, 2]", 2, "[0, 2]", []string{"0", "0"}, "[0, 2]"}, {"sqrt(x)", "x [0, 4]", 2, "[0, 2]", []string{"0"}, "[0, 2]"}, {"exp(x)", "x [0, 1]", 3, "[1, 11/4]", []string{"0"}, "[1, 11/4]"}, {"abs(x - y)", "x [0, 1]; y [0, 1]", 3, "[0, 1]", []string{"0", "0"}, "[0, 1]"}, {"min(x - x, y)", "x [0, 1]; y [1, 2]", 3, "[0, 0]", []string{"0", "0"}, "[0, 0]"}, {"max(x, y)", "x [0, 1]; y [-1, 2]", 3, "[0, 2]", []string{"0", "0"}, "[0, 2]"}, {"sin(x) + x", "x [0, 0]", 3, "[0, 0]", []string{"1"}, "[0, 0]"},
		{"if(x - x, y, log(0 - y))", "x [0, 1]; y [1, 2]", 3, "[1, 2]", []string{"0", "0"}, "[1, 2]"}, {"if(x - 2, log(-y), y)", "x [0, 1]; y [1, 2]", 3, "[1, 2]", []string{"0", "0"}, "[1, 2]"}, {"if(x - y, y, 3)", "x [0, 1]; y [0, 2]", 3, "[0, 3]", []string{"0", "0"}, "[0, 3]"},
	} {
		what := fmt.Sprintf("Line(%s, %s, %d)", c.e, c.b, c.p)
		got, err := enclose.Line(ex(c.e), box(c.b), c.p)
		expect(t, what, got.Const, err, iv(c.constant), api.OK)
		if len(got.Slopes) != len(c.slopes) {
			t.Fatalf("%s has %d slopes", what, len(got.Slopes))
		}
		for i, s := range c.slopes {
			if !sameRat(got.Slopes[i], rat(s)) {
				t.Errorf("%s has the slope %s at %d, want %s", what, short(got.Slopes[i]), i, s)
			}
		}
		a, err := enclose.Spread(got, box(c.b), c.p)
		expect(t, "the range of "+what, a, err, iv(c.spread), api.OK)
	}
}

// P5.10: Spread of forms that are no results.
func TestSpread(t *testing.T) {
	for _, c := range []struct {
		constant string
		slopes   []string
		b        string
		p        int
		want     string
	}{
		{"[1/3, 2/3]", nil, "", 2, "[1/4, 3/4]"}, {"[0, 0]", []string{"1/3"}, "x [0, 2]", 2, "[-1/2, 1/2]"}, {"[1, 2]", []string{"-2", "3"}, "x [0, 2]; y [-1, 1]", 0, "[-4, 7]"}, {"[0, inf)", []string{"1"}, "x [0, 2]", 2, "[-1, inf)"}, {"(-inf, 1/3]", []string{"1"}, "x [0, 2]", 1, "(-inf, 3/2]"}, {"(-inf, inf)", []string{"5"}, "x [0, 2]", 2, "(-inf, inf)"}, {"[1, 1]", []string{"7"}, "x [1/2, 1/2]", 2, "[1, 1]"}, {"[0, 0]", []string{"1"}, "x [0, 1]", 0, "[-1, 1]"},
	} {
		l := api.Linear{Const: iv(c.constant)}
		for _, s := range c.slopes {
			l.Slopes = append(l.Slopes, rat(s))
		}
		got, err := enclose.Spread(l, box(c.b), c.p)
		expect(t, fmt.Sprintf("Spread(%s, %v, %s, %d)", c.constant, c.slopes, c.b, c.p), got, err, iv(c.want), api.OK)
		l.Const = disguisedIv(l.Const)
		for i := range l.Slopes {
			l.Slopes[i] = disguised(l.Slopes[i])
		}
		got, err = enclose.Spread(l, disguisedBox(box(c.b)), c.p)
		expect(t, fmt.Sprintf("Spread(%s, %v, %s, %d), disguised,", c.constant, c.slopes, c.b, c.p), got, err, iv(c.want), api.OK)
	}
}

// P5.11: Best.
func TestBest(t *testing.T) {
	for _, c := range []struct {
		e, b, want string
		err        api.Errno
	}{
		{"x - x", "x [0, 1]", "[0, 0]", api.OK}, {"x^2 - x + 1", "x [0, 1]", "[3/4, 1]", api.OK}, {"x * y", "x [0, 2]; y [0, 2]", "[0, 4]", api.OK}, {"x - x", "x [0, inf)", "(-inf, inf)", api.OK}, {"abs(x - x)", "x [0, 1]", "[0, 1]", api.OK}, {"if(1, x - x, 0)", "x [0, 1]", "[-1, 1]", api.OK}, {"5", "", "[5, 5]", api.OK},
		{"sqrt(x) - sqrt(x)", "x [0, 1]", "[-1, 1]", api.OK}, {"root(3, x) * 0 + x - x", "x [0, 1]", "[0, 0]", api.OK}, // Mean and Taylor, or only Taylor, divide by 0
		{"1 / x - 1 / x", "x [0, 1]", "", api.ErrDomain}, {"exp(x)", "x [0, 100]", "", api.ErrRange}, {"abs(x) / 0", "x [0, 1]", "", api.ErrDomain},
	} {
		want := api.Interval{}
		if c.err == api.OK {
			want = iv(c.want)
		}
		got, err := enclose.Best(ex(c.e), box(c.b), 4)
		expect(t, fmt.Sprintf("Best(%s, %s, 4)", c.e, c.b), got, err, want, c.err)
	}
}

// scene is an expression, a box and a precision.
type scene struct {
	e api.Expr
	b []api.Side
	p int
}

// text returns the text of a scene for messages.
func (s scene) text() string {
	return fmt.Sprintf("(%s, %s, %d)", exText(s.e), boxText(s.b), s.p)
}

// scenes calls visit with random scenes.
func scenes(seed int64, count int, m blend, bounded bool, visit func(r *rand.Rand, s scene)) {
	r := rand.New(rand.NewSource(seed))
	for range count {
		n := r.Intn(4)
		s := scene{m.randomExpr(r, n, 1+r.Intn(5)), randomBox(r, n, bounded), []int{0, 1, 4, 8, 30, api.MaxPrec}[r.Intn(6)]}
		visit(r, s)
	}
}

// disguised returns an equal scene that is not canonical, sometimes.
func (s scene) disguised(r *rand.Rand) scene {
	if r.Intn(2) == 0 {
		return s
	}
	return scene{disguisedExpr(s.e), disguisedBox(s.b), s.p}
}

// P5.5 to P5.11: what the functions return is what the chapter says, for scenes of all kinds.
func TestManyForms(t *testing.T) {
	count := map[string]int{}
	check := func(r *rand.Rand, s scene) {
		d := s.disguised(r)
		got, err := enclose.Range(d.e, d.b, d.p)
		c := calc{p: s.p}
		a := c.natural(s.e, s.b)
		expect(t, "Range"+s.text(), got, err, a, c.err)
		if c.err == api.OK {
			count["Range"]++
		}
		got, err = enclose.Mean(d.e, d.b, d.p)
		c = calc{p: s.p}
		a = c.mean(s.e, s.b)
		expect(t, "Mean"+s.text(), got, err, a, c.err)
		if c.err == api.OK {
			count["Mean"]++
		}
		got, err = enclose.Taylor(d.e, d.b, d.p)
		c = calc{p: s.p}
		a = c.taylor(s.e, s.b)
		expect(t, "Taylor"+s.text(), got, err, a, c.err)
		if c.err == api.OK {
			count["Taylor"]++
		}
		checkLine(t, s, d)
		checkDerivatives(t, s, d)
		checkBest(t, s)
	}
	scenes(51, 600, polynomials, true, check)
	scenes(52, 700, smooths, true, check)
	scenes(53, 400, everything, true, check)
	scenes(54, 400, everything, false, check)
	if count["Range"] < 1200 || count["Mean"] < 700 || count["Taylor"] < 700 {
		t.Errorf("the scenes have too many errors: %v", count)
	}
}

// checkLine checks Line, and Spread of its result.
func checkLine(t *testing.T, s, d scene) {
	t.Helper()
	got, err := enclose.Line(d.e, d.b, d.p)
	c := calc{p: s.p}
	want := c.line(s.e, s.b)
	expect(t, "Line"+s.text(), got.Const, err, want.Const, c.err)
	if c.err != api.OK {
		if len(got.Slopes) > 0 {
			t.Errorf("Line%s has slopes and an error", s.text())
		}
		return
	}
	for i := range s.b {
		if len(got.Slopes) != len(s.b) || !sameRat(got.Slopes[i], want.Slopes[i]) {
			t.Fatalf("Line%s has the slopes %v, want %v", s.text(), got.Slopes, want.Slopes)
		}
	}
	a, err := enclose.Spread(got, d.b, d.p)
	_, spreads := c.around(s.b)
	sum := c.spread(want, spreads)
	expect(t, "the range of Line"+s.text(), a, err, sum, c.err)
}

// checkDerivatives checks Gradient and Hessian.
func checkDerivatives(t *testing.T, s, d scene) {
	t.Helper()
	got, err := enclose.Gradient(d.e, d.b, d.p)
	c := calc{p: s.p}
	c.smooth(s.e)
	c.firsts(s.e, s.b)
	want := c.gradient(s.e, s.b, s.b)
	if c.err != api.OK {
		want = nil
	}
	if ivsText(got) != ivsText(want) || err != c.err {
		t.Errorf("Gradient%s is %s, error %d; want %s, error %d", s.text(), ivsText(got), err, ivsText(want), c.err)
	}
	rows, err := enclose.Hessian(d.e, d.b, d.p)
	c = calc{p: s.p}
	c.smooth(s.e)
	c.seconds(s.e, s.b)
	wants := c.hessian(s.e, s.b)
	if c.err != api.OK {
		wants = nil
	}
	if err != c.err || len(rows) != len(wants) {
		t.Fatalf("Hessian%s has %d rows, error %d; want error %d", s.text(), len(rows), err, c.err)
	}
	for i := range rows {
		if ivsText(rows[i]) != ivsText(wants[i]) {
			t.Errorf("Hessian%s has the row %s, want %s", s.text(), ivsText(rows[i]), ivsText(wants[i]))
		}
	}
}

// checkBest checks Best against the other functions.
func checkBest(t *testing.T, s scene) {
	t.Helper()
	want, wantErr := enclose.Range(s.e, s.b, s.p)
	c := calc{}
	c.smooth(s.e)
	if wantErr == api.OK && c.err == api.OK {
		meet := func(a api.Interval, err api.Errno) {
			if err == api.OK {
				want, _ = interval.Meet(want, a)
			}
		}
		meet(enclose.Mean(s.e, s.b, s.p))
		meet(enclose.Taylor(s.e, s.b, s.p))
		if l, err := enclose.Line(s.e, s.b, s.p); err == api.OK {
			meet(enclose.Spread(l, s.b, s.p))
		}
	}
	got, err := enclose.Best(s.e, s.b, s.p)
	expect(t, "Best"+s.text(), got, err, want, wantErr)
}
