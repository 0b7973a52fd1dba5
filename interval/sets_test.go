package interval_test

import (
	"math/rand"
	"testing"

	"inequality/api"
	"inequality/interval"
)

// P3.2: Canon.
func TestCanon(t *testing.T) {
	two, one := rat("2"), rat("1")
	for _, c := range []struct {
		a    api.Interval
		want string
	}{
		{api.Interval{}, "[0, 0]"},
		{api.Interval{Lo: two, Hi: one}, "empty"},
		{api.Interval{Lo: two, Hi: one, LoInf: true}, "(-inf, 1]"},
		{api.Interval{Lo: two, Hi: one, HiInf: true}, "[2, inf)"},
		{api.Interval{Lo: two, Hi: one, LoInf: true, HiInf: true}, "(-inf, inf)"},
		{api.Interval{Lo: api.Rat{Neg: true, Num: []uint32{4, 0}, Den: []uint32{6}}, Hi: api.Rat{Num: []uint32{9}, Den: []uint32{9, 0, 0}}}, "[-2/3, 1]"},
		{api.Interval{Lo: api.Rat{Neg: true, Den: []uint32{5}}, Hi: api.Rat{Neg: true, Num: []uint32{0}}}, "[0, 0]"},
		{api.Interval{Lo: rat("1/3"), Hi: rat("1/4")}, "empty"},
		{api.Interval{Lo: api.Rat{Num: []uint32{2}, Den: []uint32{6}}, Hi: rat("1/3")}, "[1/3, 1/3]"},
		{iv("[-2^2048-1, 2^2048-1]"), "[-2^2048-1, 2^2048-1]"},
	} {
		got, err := interval.Canon(c.a)
		expect(t, "Canon of "+text(c.a), got, err, iv(c.want), api.OK)
	}
	pairs(1, 500, 90, func(r *rand.Rand, a, b api.Interval) {
		got, err := interval.Canon(a)
		expect(t, "Canon of "+text(a), got, err, meaning(a).interval(), api.OK)
	})
}

// P3.2: Point, Between, Whole.
func TestPointBetweenWhole(t *testing.T) {
	for _, s := range []string{"0", "1", "-7/3", "2^2048-1", "-2^-2047"} {
		got, err := interval.Point(rat(s))
		expect(t, "Point of "+s, got, err, api.Interval{Lo: rat(s), Hi: rat(s)}, api.OK)
	}
	got, err := interval.Point(api.Rat{Neg: true, Num: []uint32{6}, Den: []uint32{4, 0}})
	expect(t, "Point of -6/4", got, err, iv("[-3/2, -3/2]"), api.OK)
	for _, c := range [][3]string{{"1", "2", "[1, 2]"}, {"2", "1", "empty"}, {"1/3", "1/3", "[1/3, 1/3]"}, {"-1/3", "-1/2", "empty"}, {"-1/2", "-1/3", "[-1/2, -1/3]"}, {"0", "0", "[0, 0]"}, {"0", "-2^-2047", "empty"}} {
		got, err := interval.Between(rat(c[0]), rat(c[1]))
		expect(t, "Between "+c[0]+" and "+c[1], got, err, iv(c[2]), api.OK)
	}
	got, err = interval.Between(api.Rat{Num: []uint32{2}, Den: []uint32{4}}, api.Rat{Num: []uint32{3}, Den: []uint32{6}})
	expect(t, "Between 2/4 and 3/6", got, err, iv("[1/2, 1/2]"), api.OK)
	expect(t, "Whole", interval.Whole(), api.OK, iv("(-inf, inf)"), api.OK)
}

// P3.3: IsEmpty, Bounded.
func TestIsEmptyBounded(t *testing.T) {
	for _, c := range []struct {
		a              api.Interval
		empty, bounded bool
	}{
		{iv("empty"), true, true}, {iv("[5, 4]"), true, true}, {iv("[0, 0]"), false, true}, {iv("[-1, 3]"), false, true}, {iv("[1, inf)"), false, false}, {iv("(-inf, 1]"), false, false}, {iv("(-inf, inf)"), false, false},
		{api.Interval{Lo: rat("5"), Hi: rat("4"), LoInf: true}, false, false}, {api.Interval{Lo: rat("5"), Hi: rat("4"), HiInf: true}, false, false},
		{api.Interval{Lo: rat("-1/3"), Hi: rat("-1/2")}, true, true}, {api.Interval{Lo: rat("2^-2047")}, true, true},
	} {
		empty, err := interval.IsEmpty(c.a)
		if empty != c.empty || err != api.OK {
			t.Errorf("IsEmpty of %v is %v, %d", c.a, empty, err)
		}
		bounded, err := interval.Bounded(c.a)
		if bounded != c.bounded || err != api.OK {
			t.Errorf("Bounded of %v is %v, %d", c.a, bounded, err)
		}
	}
}

// P3.3: Has.
func TestHas(t *testing.T) {
	for _, c := range []struct {
		a    string
		x    string
		want bool
	}{
		{"[1, 2]", "1", true}, {"[1, 2]", "2", true}, {"[1, 2]", "3/2", true}, {"[1, 2]", "0", false}, {"[1, 2]", "5/2", false}, {"[1/3, 1/3]", "1/3", true}, {"[1/3, 1/3]", "1/4", false},
		{"[1, inf)", "1", true}, {"[1, inf)", "2^2048-1", true}, {"[1, inf)", "0", false}, {"(-inf, 1]", "-2^2048-1", true}, {"(-inf, 1]", "1", true}, {"(-inf, 1]", "2", false}, {"(-inf, inf)", "-7", true}, {"empty", "0", false}, {"empty", "1", false}, {"[5, 3]", "4", false},
	} {
		got, err := interval.Has(iv(c.a), rat(c.x))
		if got != c.want || err != api.OK {
			t.Errorf("Has(%s, %s) is %v, %d", c.a, c.x, got, err)
		}
	}
	pairs(2, 800, 4, func(r *rand.Rand, a, b api.Interval) {
		x := random(r, 4)
		got, err := interval.Has(a, disguised(r, canonical(x)))
		if got != meaning(a).has(x) || err != api.OK {
			t.Errorf("Has(%s, %s) is %v, %d", text(a), x.RatString(), got, err)
		}
	})
}

// P3.3: Inside.
func TestInside(t *testing.T) {
	for _, c := range []struct {
		a, b string
		want bool
	}{
		{"[1, 2]", "[1, 2]", true}, {"[1, 2]", "[0, 3]", true}, {"[0, 3]", "[1, 2]", false}, {"[1, 2]", "[1, 3/2]", false}, {"[1, 2]", "[3/2, 2]", false}, {"[1, 2]", "[1, inf)", true}, {"[1, inf)", "[1, 2]", false}, {"[1, inf)", "[0, inf)", true}, {"[1, inf)", "[2, inf)", false},
		{"(-inf, 1]", "(-inf, 2]", true}, {"(-inf, 1]", "(-inf, 0]", false}, {"(-inf, 1]", "[-9, 1]", false}, {"(-inf, inf)", "(-inf, inf)", true}, {"(-inf, inf)", "(-inf, 9]", false}, {"(-inf, inf)", "[-9, inf)", false},
		{"empty", "empty", true}, {"empty", "[5, 6]", true}, {"empty", "(-inf, inf)", true}, {"[5, 3]", "[7, 8]", true}, {"[1, 1]", "empty", false}, {"[4, 4]", "[5, 3]", false}, {"(-inf, inf)", "empty", false}, {"[5, 3]", "[9, 2]", true},
	} {
		got, err := interval.Inside(iv(c.a), iv(c.b))
		if got != c.want || err != api.OK {
			t.Errorf("Inside(%s, %s) is %v, %d", c.a, c.b, got, err)
		}
	}
	pairs(3, 1500, 3, func(r *rand.Rand, a, b api.Interval) {
		got, err := interval.Inside(a, b)
		if got != meaning(a).inside(meaning(b)) || err != api.OK {
			t.Errorf("Inside(%s, %s) is %v, %d", text(a), text(b), got, err)
		}
	})
}

// P3.4: Meet and Hull.
func TestMeetHull(t *testing.T) {
	for _, c := range [][4]string{
		{"[1, 3]", "[2, 4]", "[2, 3]", "[1, 4]"}, {"[1, 2]", "[2, 4]", "[2, 2]", "[1, 4]"}, {"[1, 2]", "[3, 4]", "empty", "[1, 4]"}, {"[1, 4]", "[2, 3]", "[2, 3]", "[1, 4]"}, {"[1, 2]", "[1, 2]", "[1, 2]", "[1, 2]"}, {"[3, 3]", "[5, 5]", "empty", "[3, 5]"},
		{"[1, inf)", "[2, 4]", "[2, 4]", "[1, inf)"}, {"[1, inf)", "[2, inf)", "[2, inf)", "[1, inf)"}, {"[1, inf)", "(-inf, 3]", "[1, 3]", "(-inf, inf)"}, {"[3, inf)", "(-inf, 1]", "empty", "(-inf, inf)"}, {"(-inf, 1]", "(-inf, 3]", "(-inf, 1]", "(-inf, 3]"}, {"(-inf, inf)", "[1, 2]", "[1, 2]", "(-inf, inf)"}, {"(-inf, inf)", "(-inf, inf)", "(-inf, inf)", "(-inf, inf)"},
		{"empty", "[1, 2]", "empty", "[1, 2]"}, {"[5, 3]", "[7, inf)", "empty", "[7, inf)"}, {"[5, 3]", "(-inf, inf)", "empty", "(-inf, inf)"}, {"empty", "[9, 8]", "empty", "empty"}, {"[-4, -9]", "[-1/2, -1/3]", "empty", "[-1/2, -1/3]"},
	} {
		for _, order := range [][2]string{{c[0], c[1]}, {c[1], c[0]}} {
			got, err := interval.Meet(iv(order[0]), iv(order[1]))
			expect(t, "Meet of "+order[0]+" and "+order[1], got, err, iv(c[2]), api.OK)
			got, err = interval.Hull(iv(order[0]), iv(order[1]))
			expect(t, "Hull of "+order[0]+" and "+order[1], got, err, iv(c[3]), api.OK)
		}
	}
	pairs(4, 800, 5, func(r *rand.Rand, a, b api.Interval) {
		meet, err := interval.Meet(a, b)
		hull, err2 := interval.Hull(a, b)
		m, h := meaning(meet), meaning(hull)
		if err != api.OK || err2 != api.OK || !meaning(a).inside(h) || !meaning(b).inside(h) || !identical(meet, m.interval()) || !identical(hull, h.interval()) {
			t.Errorf("Meet and Hull of %s and %s are %s and %s", text(a), text(b), text(meet), text(hull))
		}
		for range 5 {
			if x := random(r, 5); m.has(x) != (meaning(a).has(x) && meaning(b).has(x)) {
				t.Errorf("Meet of %s and %s is %s", text(a), text(b), text(meet))
			}
		}
	})
}

// P3.5: Middle.
func TestMiddle(t *testing.T) {
	for _, c := range []struct {
		a    api.Interval
		want string
		err  api.Errno
	}{
		{iv("[1, 2]"), "3/2", api.OK}, {iv("[-1, 1]"), "0", api.OK}, {iv("[1/3, 1/3]"), "1/3", api.OK}, {iv("[-5/6, 2/3]"), "-1/12", api.OK}, {iv("[1, inf)"), "2", api.OK}, {iv("[-5/2, inf)"), "-3/2", api.OK}, {iv("(-inf, 1]"), "0", api.OK}, {iv("(-inf, 1/3]"), "-2/3", api.OK}, {iv("(-inf, inf)"), "0", api.OK},
		{api.Interval{Lo: rat("7"), Hi: rat("3"), LoInf: true}, "2", api.OK}, {api.Interval{Lo: rat("7"), Hi: rat("3"), HiInf: true}, "8", api.OK}, {api.Interval{Lo: rat("7"), Hi: rat("3"), LoInf: true, HiInf: true}, "0", api.OK},
		{iv("empty"), "0", api.ErrArg}, {iv("[2, 1]"), "0", api.ErrArg}, {iv("[2^-2047, 0]"), "0", api.ErrArg},
		{iv("[0, 2^-2047]"), "0", api.ErrSize}, {iv("[2^-2047, 2^-2047]"), "2^-2047", api.OK}, {iv("[2^2048-1, inf)"), "0", api.ErrSize}, {iv("(-inf, -2^2048-1]"), "0", api.ErrSize}, {iv("[-2^2048-1, 2^2048-1]"), "0", api.OK}, {iv("(-inf, 2^2047]"), "2^2047-1", api.OK}, {iv("[2^2047, 2^2047]"), "2^2047", api.OK},
	} {
		got, err := interval.Middle(c.a)
		if !same(got, rat(c.want)) || err != c.err {
			t.Errorf("Middle of %s is %v, %d", text(c.a), got, err)
		}
	}
	pairs(5, 300, 40, func(r *rand.Rand, a, b api.Interval) {
		got, err := interval.Middle(a)
		if m := meaning(a); m.empty != (err == api.ErrArg) || err == api.OK && !m.has(value(got)) || !same(got, canonical(value(got))) {
			t.Errorf("Middle of %s is %v, %d", text(a), got, err)
		}
	})
}

// P3.6: Sign.
func TestSign(t *testing.T) {
	for _, c := range []struct {
		a    api.Interval
		want int
	}{
		{iv("empty"), api.SignEmpty}, {iv("[-1, -2]"), api.SignEmpty}, {iv("[0, -1]"), api.SignEmpty}, {iv("[2, 0]"), api.SignEmpty}, {iv("[0, 0]"), api.SignZero}, {api.Interval{Lo: api.Rat{Neg: true}, Hi: api.Rat{Neg: true, Den: []uint32{3}}}, api.SignZero},
		{iv("[1, 2]"), api.SignPos}, {iv("[2^-2047, 2^-2047]"), api.SignPos}, {iv("[1/3, inf)"), api.SignPos}, {iv("[-2, -1]"), api.SignNeg}, {iv("(-inf, -1/3]"), api.SignNeg}, {iv("[-2^-2047, -2^-2047]"), api.SignNeg},
		{iv("[0, 1]"), api.SignNonNeg}, {iv("[0, inf)"), api.SignNonNeg}, {iv("[0, 2^-2047]"), api.SignNonNeg}, {iv("[-1, 0]"), api.SignNonPos}, {iv("(-inf, 0]"), api.SignNonPos}, {iv("[-2^-2047, 0]"), api.SignNonPos},
		{iv("[-1, 1]"), api.SignMixed}, {iv("[-1, inf)"), api.SignMixed}, {iv("(-inf, 1]"), api.SignMixed}, {iv("(-inf, inf)"), api.SignMixed},
		{api.Interval{Lo: rat("1"), Hi: rat("2"), LoInf: true}, api.SignMixed}, {api.Interval{Lo: rat("1"), Hi: rat("-2"), LoInf: true}, api.SignNeg}, {api.Interval{Lo: rat("1"), Hi: rat("-2"), HiInf: true}, api.SignPos}, {api.Interval{Hi: rat("-2"), HiInf: true}, api.SignNonNeg},
	} {
		got, err := interval.Sign(c.a)
		if got != c.want || err != api.OK {
			t.Errorf("Sign of %v is %d, %d", c.a, got, err)
		}
	}
}
