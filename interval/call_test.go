package interval_test

import (
	"fmt"
	"math/big"
	"math/rand"
	"testing"

	"inequality/api"
	"inequality/elem"
	"inequality/interval"
)

// P3.12: results and errors of Call.
func TestCall(t *testing.T) {
	const exp, log, sin, cos, tan, asin, acos, atan = api.FnExp, api.FnLog, api.FnSin, api.FnCos, api.FnTan, api.FnAsin, api.FnAcos, api.FnAtan
	for _, c := range []struct {
		fn   int
		a    string
		p    int
		want string
	}{
		{exp, "(-inf, 0]", 4, "[0, 1]"}, {exp, "[0, 1]", 3, "[1, 11/4]"}, {exp, "[1, inf)", 3, "[21/8, inf)"}, {exp, "(-inf, inf)", 3, "[0, inf)"}, {exp, "[-64, -64]", 10, "[0, 1/1024]"}, {exp, "[-1, 1/2]", 2, "[1/4, 7/4]"}, {exp, "(-inf, -64]", 0, "[0, 1]"},
		{log, "[1, 2]", 2, "[0, 3/4]"}, {log, "[1/2, 10]", 3, "[-3/4, 19/8]"}, {log, "[2, inf)", 2, "[1/2, inf)"}, {log, "[1, 1]", 9, "[0, 0]"}, {log, "[1/3, 1/3]", 0, "[-2, -1]"},
		{sin, "[1, 2]", 2, "[3/4, 1]"}, {sin, "[0, 0]", 5, "[0, 0]"}, {sin, "[0, 1]", 2, "[0, 1]"}, {sin, "[0, 1/2]", 3, "[0, 1/2]"}, {sin, "[3, 5]", 3, "[-1, 1/4]"}, {sin, "[2, 3]", 3, "[1/8, 1]"}, {sin, "[-2, -1]", 2, "[-1, -3/4]"}, {sin, "[-2, 2]", 0, "[-1, 1]"}, {sin, "[1, 8]", 4, "[-1, 1]"}, {sin, "(-inf, 1]", 4, "[-1, 1]"}, {sin, "[1, inf)", 4, "[-1, 1]"}, {sin, "(-inf, inf)", 4, "[-1, 1]"}, {sin, "[2^1024, inf)", 4, "[-1, 1]"}, {sin, "(-inf, 2^1024]", 4, "[-1, 1]"}, {sin, "[4, 5]", 2, "[-1, -3/4]"},
		{cos, "[0, 0]", 5, "[1, 1]"}, {cos, "[0, 1]", 2, "[1/2, 1]"}, {cos, "[-1, 2]", 2, "[-1/2, 1]"}, {cos, "[1, 2]", 2, "[-1/2, 3/4]"}, {cos, "[3, 4]", 2, "[-1, -1/2]"}, {cos, "[-4, -3]", 2, "[-1, -1/2]"}, {cos, "[2, 3]", 1, "[-1, 0]"}, {cos, "[5, 7]", 2, "[1/4, 1]"}, {cos, "(-inf, inf)", 0, "[-1, 1]"}, {cos, "[5000000000, inf)", 0, "[-1, 1]"}, {cos, "(-inf, 3]", 0, "[-1, 1]"}, {cos, "[0, 4]", 0, "[-1, 1]"},
		{tan, "[0, 1]", 1, "[0, 2]"}, {tan, "[-1, 1]", 1, "[-2, 2]"}, {tan, "[2, 2]", 0, "[-3, -2]"}, {tan, "[2, 4]", 0, "[-3, 2]"}, {tan, "[-3/2, 3/2]", 0, "[-15, 15]"},
		{asin, "[-1, 1]", 1, "[-2, 2]"}, {asin, "[0, 1/2]", 3, "[0, 5/8]"}, {asin, "[1/2, 1/2]", 3, "[1/2, 5/8]"}, {asin, "[-1, -1]", 1, "[-2, -3/2]"},
		{acos, "[0, 1]", 1, "[0, 2]"}, {acos, "[-1, 1]", 2, "[0, 13/4]"}, {acos, "[1, 1]", 3, "[0, 0]"}, {acos, "[-1, 0]", 1, "[3/2, 7/2]"},
		{atan, "[0, 1]", 2, "[0, 1]"}, {atan, "[1, inf)", 2, "[3/4, 7/4]"}, {atan, "(-inf, 0]", 4, "[-13/8, 0]"}, {atan, "(-inf, inf)", 4, "[-13/8, 13/8]"}, {atan, "(-inf, inf)", 0, "[-2, 2]"}, {atan, "(-inf, inf)", 1, "[-2, 2]"}, {atan, "[-1, 100]", 3, "[-7/8, 13/8]"}, {atan, "(-inf, -1]", 2, "[-7/4, -3/4]"},
		{exp, "empty", 4, "empty"}, {exp, "[5000, 100]", 4, "empty"}, {log, "[-1, -2]", 4, "empty"}, {asin, "[5, 3]", 4, "empty"}, {acos, "[-3, -5]", 4, "empty"}, {tan, "[2, 1]", 4, "empty"}, {sin, "[2^1025, 2^1024]", 4, "empty"}, {cos, "[2, 1]", 4, "empty"}, {atan, "[2^1025, 2^1024]", 4, "empty"},
	} {
		got, err := interval.Call(c.fn, iv(c.a), c.p)
		expect(t, fmt.Sprintf("Call(%s, %s, %d)", elem.Name(c.fn), c.a, c.p), got, err, iv(c.want), api.OK)
	}
}

// P3.12 and P3.1: what is undefined comes before what is out of range, and that before the poles of tan.
func TestCallErrors(t *testing.T) {
	const exp, log, sin, cos, tan, asin, acos, atan = api.FnExp, api.FnLog, api.FnSin, api.FnCos, api.FnTan, api.FnAsin, api.FnAcos, api.FnAtan
	const domain, ranged, ok = api.ErrDomain, api.ErrRange, api.OK
	for _, c := range []struct {
		fn  int
		a   string
		err api.Errno
	}{
		{log, "[0, 1]", domain}, {log, "[-1, -1]", domain}, {log, "[0, 0]", domain}, {log, "(-inf, 1]", domain}, {log, "(-inf, inf)", domain}, {log, "[0, inf)", domain}, {log, "[0, 2^1024]", domain}, {log, "[-2^1024, 2^1024]", domain}, {log, "[1/2, 2^1024]", ranged}, {log, "[2^-1024, 1]", ranged}, {log, "[2^1024, inf)", ranged}, {log, "[2^-1023, 2^1023]", ok}, {log, "[2^-1024, 2^-1024]", ranged},
		{asin, "[0, 2]", domain}, {asin, "[-2, 0]", domain}, {asin, "[2, 3]", domain}, {asin, "(-inf, 0]", domain}, {asin, "[0, inf)", domain}, {asin, "(-inf, inf)", domain}, {asin, "[2^-1024, 2]", domain}, {asin, "[2^-1024, 1]", ranged}, {asin, "[-1, 2^-1024]", ranged}, {asin, "[-1, 1]", ok},
		{acos, "[0, 2]", domain}, {acos, "[-2, 0]", domain}, {acos, "[-3, -2]", domain}, {acos, "(-inf, 0]", domain}, {acos, "[0, inf)", domain}, {acos, "(-inf, inf)", domain}, {acos, "[2^-1024, 2]", domain}, {acos, "[2^-1024, 1]", ranged}, {acos, "[-1, 2^-1024]", ranged}, {acos, "[-1, 1]", ok},
		{tan, "[1, 2]", domain}, {tan, "[4, 5]", domain}, {tan, "[-2, -1]", domain}, {tan, "[-5, -4]", domain}, {tan, "[0, 100]", domain}, {tan, "[0, inf)", domain}, {tan, "(-inf, 0]", domain}, {tan, "(-inf, inf)", domain}, {tan, "[5000000000, inf)", domain}, {tan, "(-inf, 2^1024]", domain}, {tan, "[1, 5000000000]", ranged}, {tan, "[-5000000000, 1]", ranged}, {tan, "[2^-1024, 2]", ranged}, {tan, "[1, 2^1024]", ranged}, {tan, "[4294967296, 4294967296]", ok}, {tan, "[2, 4]", ok},
		{exp, "[-65, 0]", ranged}, {exp, "[0, 65]", ranged}, {exp, "(-inf, 65]", ranged}, {exp, "[-65, inf)", ranged}, {exp, "[2^-1024, 1]", ranged}, {exp, "[-64, 64]", ok}, {exp, "(-inf, 64]", ok}, {exp, "[-64, inf)", ok}, {exp, "(-inf, 2^-1024]", ranged},
		{sin, "[1, 5000000000]", ranged}, {sin, "[-5000000000, 1]", ranged}, {sin, "[2^-1024, 1]", ranged}, {sin, "[-4294967296, 4294967296]", ok}, {cos, "[1, 5000000000]", ranged}, {cos, "[-5000000000, 1]", ranged}, {cos, "[1, 2^1024]", ranged}, {cos, "[-4294967296, 4294967296]", ok},
		{atan, "[2^1024, inf)", ranged}, {atan, "(-inf, -2^1024]", ranged}, {atan, "[0, 2^-1024]", ranged}, {atan, "[-2^1024, 0]", ranged}, {atan, "[-2^1023, 2^1023]", ok}, {atan, "(-inf, inf)", ok},
	} {
		for _, p := range []int{0, 7, api.MaxPrec, -1, api.MaxPrec + 1, -1 << 63} {
			want := c.err
			if p < 0 || p > api.MaxPrec {
				want = api.ErrArg
			}
			got, err := interval.Call(c.fn, iv(c.a), p)
			if err != want || err != ok && !identical(got, api.Interval{}) {
				t.Errorf("Call(%s, %s, %d) is %s, error %d, want %d", elem.Name(c.fn), c.a, p, text(got), err, want)
			}
		}
	}
	for _, fn := range []int{0, 9, -1, -1 << 63, 1<<63 - 1} {
		for _, a := range []string{"[1, 2]", "[-1, 0]", "empty", "[0, inf)"} {
			got, err := interval.Call(fn, iv(a), 4)
			expect(t, fmt.Sprintf("Call(%d, %s)", fn, a), got, err, api.Interval{}, api.ErrArg)
		}
	}
}

// P3.12: near a pole of tan a bracket may not tell the sign of the cosine. That comes before the pole.
func TestCallNearPole(t *testing.T) {
	pi, _ := elem.Pi(api.MaxPrec)
	low, high := canonical(quo(value(pi.Lo), whole(2))), canonical(quo(value(pi.Hi), whole(2)))
	for _, c := range []struct {
		lo, hi api.Rat
		p      int
		err    api.Errno
	}{
		{low, low, 0, api.ErrRange}, {low, rat("2"), 0, api.ErrRange}, {rat("1"), low, 0, api.ErrRange}, {low, high, 0, api.ErrRange}, {high, rat("2"), 0, api.ErrRange},
		{low, low, api.MaxPrec, api.OK}, {high, high, api.MaxPrec, api.OK}, {low, high, api.MaxPrec, api.ErrDomain}, {low, rat("2"), api.MaxPrec, api.ErrDomain}, {rat("1"), low, api.MaxPrec, api.OK}, {high, rat("2"), api.MaxPrec, api.OK},
	} {
		got, err := interval.Call(api.FnTan, api.Interval{Lo: c.lo, Hi: c.hi}, c.p)
		if err != c.err || err != api.OK && !identical(got, api.Interval{}) {
			t.Errorf("Call(tan, %s and %s, %d) is %v, error %d, want %d", short(c.lo), short(c.hi), c.p, got, err, c.err)
		}
	}
}

// bounds are the numbers of a bracket.
type bounds struct{ lo, hi *big.Rat }

// bracket returns the bracket of fn at x, if it has one.
func bracket(fn int, x *big.Rat, p int) (bounds, api.Errno) {
	b, err := elem.Apply(fn, canonical(x), p)
	return bounds{value(b.Lo), value(b.Hi)}, err
}

// chapter is the promise about Call, written down case by case.
func chapter(fn int, m model, p int) (model, api.Errno) {
	bounded := m.lo != nil && m.hi != nil
	undefined := false
	switch fn {
	case api.FnLog:
		undefined = m.lo == nil || m.lo.Sign() <= 0
	case api.FnAsin, api.FnAcos:
		undefined = !m.inside(model{lo: whole(-1), hi: whole(1)})
	case api.FnTan:
		undefined = !bounded
	}
	switch {
	case m.empty:
		return m, api.OK
	case undefined:
		return model{}, api.ErrDomain
	case (fn == api.FnSin || fn == api.FnCos) && !bounded:
		return model{lo: whole(-1), hi: whole(1)}, api.OK
	}
	var first, last bounds
	if m.lo != nil {
		var err api.Errno
		if first, err = bracket(fn, m.lo, p); err != api.OK {
			return model{}, err
		}
	}
	if m.hi != nil {
		var err api.Errno
		if last, err = bracket(fn, m.hi, p); err != api.OK {
			return model{}, err
		}
	}
	return combined(fn, m, p, first, last)
}

// combined forms the result of Call from the brackets at the finite ends.
func combined(fn int, m model, p int, first, last bounds) (model, api.Errno) {
	turns := func(r int) bool {
		ok, err := elem.Turns(canonical(m.lo), canonical(m.hi), r)
		if err != api.OK {
			panic(err)
		}
		return ok
	}
	switch fn {
	case api.FnAcos:
		return model{lo: last.lo, hi: first.hi}, api.OK
	case api.FnTan:
		if turns(1) || turns(3) {
			return model{}, api.ErrDomain
		}
	case api.FnSin, api.FnCos:
		result := model{lo: lesser(first.lo, last.lo), hi: greater(first.hi, last.hi)}
		if fn == api.FnSin && turns(3) || fn == api.FnCos && turns(2) {
			result.lo = whole(-1)
		}
		if fn == api.FnSin && turns(1) || fn == api.FnCos && turns(0) {
			result.hi = whole(1)
		}
		return result, api.OK
	case api.FnAtan:
		pi, _ := elem.Pi(p)
		half := quo(value(pi.Hi), whole(2))
		if m.lo == nil {
			first.lo = down(neg(half), p)
		}
		if m.hi == nil {
			last.hi = up(half, p)
		}
	case api.FnExp:
		if m.lo == nil {
			first.lo = whole(0)
		}
	}
	return model{lo: first.lo, hi: last.hi}, api.OK
}

// domain returns intervals that are mostly in the domain and the range of fn.
func domain(r *rand.Rand, fn int) model {
	m := randomModel(r, []int{3, 6, 20}[r.Intn(3)])
	if m.empty || r.Intn(8) == 0 {
		return m
	}
	x, y := m.member(r), m.member(r)
	switch fn {
	case api.FnLog:
		if m.lo != nil && m.lo.Sign() <= 0 {
			return model{lo: power2(-r.Intn(9)), hi: m.hi}.ordered()
		}
	case api.FnAsin, api.FnAcos:
		return model{lo: fraction(x), hi: fraction(y)}.ordered()
	case api.FnTan, api.FnSin, api.FnCos:
		if r.Intn(6) > 0 {
			return model{lo: x, hi: add(x, mul(fraction(y), whole(1+r.Intn(4))))}.ordered()
		}
	}
	return m
}

// fraction returns a number from -1 to 1 that is formed from x.
func fraction(x *big.Rat) *big.Rat {
	if new(big.Rat).Abs(x).Cmp(whole(1)) > 0 {
		return new(big.Rat).Inv(x)
	}
	return x
}

// ordered returns the set between the numbers in their order.
func (m model) ordered() model {
	if m.lo != nil && m.hi != nil && m.lo.Cmp(m.hi) > 0 {
		m.lo, m.hi = m.hi, m.lo
	}
	return m
}

// calls calls visit with intervals that are mostly in the domain of each function.
func calls(seed int64, count int, visit func(r *rand.Rand, fn int, m model, p int)) {
	r := rand.New(rand.NewSource(seed))
	for fn := api.FnExp; fn <= api.FnAtan; fn++ {
		for range count {
			visit(r, fn, domain(r, fn), precision(r))
		}
	}
}

// P3.12: what Call returns is what the chapter says, for intervals of all kinds.
func TestManyCalls(t *testing.T) {
	count := map[api.Errno]int{}
	calls(21, 400, func(r *rand.Rand, fn int, m model, p int) {
		want, wantErr := chapter(fn, m, p)
		got, err := interval.Call(fn, disguise(r, m.interval()), p)
		expect(t, fmt.Sprintf("Call(%s, %s, %d)", elem.Name(fn), text(m.interval()), p), got, err, want.interval(), wantErr)
		count[err]++
	})
	if count[api.OK] < 1500 || count[api.ErrDomain] < 100 || count[api.ErrRange] < 10 {
		t.Errorf("the intervals are too much alike: %v", count)
	}
}
