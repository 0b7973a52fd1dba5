package elem_test

import (
	"fmt"
	"math/big"
	"math/rand"
	"testing"

	"inequality/api"
	"inequality/elem"
	"inequality/fraction"
)

// The functions below are the formulas of the chapter, word by word and with exact numbers. paper is a working precision.
type paper int

// dn is [a].
func (w paper) dn(a *big.Rat) *big.Rat { return down(a, int(w)) }

// up is {a}.
func (w paper) up(a *big.Rat) *big.Rat { return up(a, int(w)) }

// a is A(a, b), P2.4.
func (w paper) a(a, b *big.Rat) pair {
	s, t := w.dn(mul(a, a)), w.up(mul(b, b))
	l, u := whole(0), big.NewRat(1, 81)
	for i := 39; i >= 0; i-- {
		first := big.NewRat(1, int64(2*i+1))
		l, u = w.dn(sub(first, mul(t, u))), w.up(sub(first, mul(s, l)))
	}
	return pair{w.dn(mul(a, l)), w.up(mul(b, u))}
}

// known are the pairs PL and PU that were formed before.
var known = map[paper]pair{}

// pi is PL and PU, P2.5.
func (w paper) pi() pair {
	if known[w].lo == nil {
		known[w] = w.machin()
	}
	return known[w]
}

// machin forms PL and PU.
func (w paper) machin() pair {
	fifth, other := big.NewRat(1, 5), big.NewRat(1, 239)
	fg, hk := w.a(w.dn(fifth), w.up(fifth)), w.a(w.dn(other), w.up(other))
	return pair{sub(mul(whole(16), fg.lo), mul(whole(4), hk.hi)), sub(mul(whole(16), fg.hi), mul(whole(4), hk.lo))}
}

// el is EL(y), and with begin 2 and round w.up it is EU(y), P2.6.
func (w paper) el(y *big.Rat, begin int, round func(*big.Rat) *big.Rat) *big.Rat {
	t, h := quo(y, whole(256)), whole(begin)
	for i := 40; i >= 1; i-- {
		h = add(whole(1), round(quo(mul(t, h), whole(i))))
	}
	for range 8 {
		h = round(mul(h, h))
	}
	return h
}

// exp is P2.6 before the last rounding.
func (w paper) exp(x *big.Rat) pair {
	if x.Sign() > 0 {
		return pair{w.el(w.dn(x), 1, w.dn), w.el(w.up(x), 2, w.up)}
	}
	y := neg(x)
	return pair{quo(whole(1), w.el(w.up(y), 2, w.up)), quo(whole(1), w.el(w.dn(y), 1, w.dn))}
}

// t is T(a, b), P2.7.
func (w paper) t(a, b *big.Rat) pair {
	s, t := w.dn(mul(a, a)), w.up(mul(b, b))
	l, u := whole(0), big.NewRat(1, 100)
	for i := 55; i >= 0; i-- {
		first := big.NewRat(1, int64(2*i+1))
		l, u = w.dn(add(first, mul(s, l))), w.up(add(first, mul(t, u)))
	}
	return pair{w.dn(mul(whole(2), mul(a, l))), w.up(mul(whole(2), mul(b, u)))}
}

// log is P2.7 before the last rounding.
func (w paper) log(x *big.Rat) pair {
	e := 0
	for ; power2(e+1).Cmp(x) <= 0; e++ {
	}
	for ; power2(e).Cmp(x) > 0; e-- {
	}
	z, third := quo(sub(x, power2(e)), add(x, power2(e))), big.NewRat(1, 3)
	cd, fg := w.t(w.dn(z), w.up(z)), w.t(w.dn(third), w.up(third))
	if e >= 0 {
		return pair{add(mul(whole(e), fg.lo), cd.lo), add(mul(whole(e), fg.hi), cd.hi)}
	}
	return pair{add(mul(whole(e), fg.hi), cd.lo), add(mul(whole(e), fg.lo), cd.hi)}
}

// wave is the pair of L and U of P2.8 at y, for the sine with first 2 and for the cosine with first 1.
func (w paper) wave(y *big.Rat, first int) pair {
	s, t := w.dn(mul(y, y)), w.up(mul(y, y))
	l, u := whole(0), whole(1)
	for i := 23; i >= 0; i-- {
		n := whole((2*i + first) * (2*i + first + 1))
		l, u = w.dn(sub(whole(1), quo(mul(t, u), n))), w.up(sub(whole(1), quo(mul(s, l), n)))
	}
	return pair{l, u}
}

// sl is SL(y) and SU(y).
func (w paper) sl(y *big.Rat) pair {
	v := w.wave(y, 2)
	return pair{w.dn(mul(y, v.lo)), w.up(mul(y, v.hi))}
}

// turn is the unrounded sine and the unrounded cosine of P2.8.
func (w paper) turn(x *big.Rat) (sine, cosine pair) {
	pi := w.pi()
	f, g := quo(pi.lo, whole(2)), quo(pi.hi, whole(2))
	k := floor(add(quo(x, f), big.NewRat(1, 2)))
	kr := new(big.Rat).SetInt(k)
	a, b := w.dn(sub(x, mul(kr, g))), w.up(sub(x, mul(kr, f)))
	if k.Sign() < 0 {
		a, b = w.dn(sub(x, mul(kr, f))), w.up(sub(x, mul(kr, g)))
	}
	var cd, mn pair
	if cd.lo = w.sl(abs(a)).lo; a.Sign() < 0 {
		cd.lo = neg(w.sl(abs(a)).hi)
	}
	if cd.hi = w.sl(abs(b)).hi; b.Sign() < 0 {
		cd.hi = neg(w.sl(abs(b)).lo)
	}
	far, near := abs(a), abs(b)
	if far.Cmp(near) < 0 {
		far, near = near, far
	}
	if a.Sign() <= 0 && b.Sign() >= 0 {
		near = whole(0)
	}
	mn = pair{w.wave(far, 1).lo, w.wave(near, 1).hi}
	list := []pair{cd, mn, cd.negated(), mn.negated()}
	r := int(new(big.Int).Mod(k, big.NewInt(4)).Int64())
	return list[r], list[(r+1)%4]
}

// tan is P2.8 before the last rounding.
func (w paper) tan(x *big.Rat) (pair, api.Errno) {
	s, c := w.turn(x)
	if c.lo.Sign() <= 0 && c.hi.Sign() >= 0 {
		return pair{}, api.ErrRange
	}
	quotients := []*big.Rat{quo(s.lo, c.lo), quo(s.lo, c.hi), quo(s.hi, c.lo), quo(s.hi, c.hi)}
	v := pair{quotients[0], quotients[0]}
	for _, q := range quotients {
		if q.Cmp(v.lo) < 0 {
			v.lo = q
		}
		if q.Cmp(v.hi) > 0 {
			v.hi = q
		}
	}
	return v, api.OK
}

// b is B(a, b), P2.9.
func (w paper) b(a, b *big.Rat) pair {
	for range 2 {
		a = w.dn(quo(a, add(whole(1), rootUp(add(whole(1), mul(a, a)), int(w)))))
		b = w.up(quo(b, add(whole(1), rootDown(add(whole(1), mul(b, b)), int(w)))))
	}
	v := w.a(a, b)
	return pair{mul(whole(4), v.lo), mul(whole(4), v.hi)}
}

// atan is P2.9 before the last rounding.
func (w paper) atan(x *big.Rat) pair {
	switch {
	case x.Sign() < 0:
		return w.atan(neg(x)).negated()
	case x.Cmp(whole(1)) <= 0:
		return w.b(w.dn(x), w.up(x))
	}
	y, pi := quo(whole(1), x), w.pi()
	cd := w.b(w.dn(y), w.up(y))
	return pair{sub(quo(pi.lo, whole(2)), cd.hi), sub(quo(pi.hi, whole(2)), cd.lo)}
}

// asin is the unrounded arcsine of P2.9.
func (w paper) asin(x *big.Rat) pair {
	switch x.Sign() {
	case 0:
		return pair{whole(0), whole(0)}
	case -1:
		return w.asin(neg(x)).negated()
	}
	square := sub(whole(1), mul(x, x))
	low := w.dn(quo(x, add(whole(1), rootUp(square, int(w)))))
	high := w.up(quo(x, add(whole(1), rootDown(square, int(w)))))
	v := w.b(low, high)
	return pair{mul(whole(2), v.lo), mul(whole(2), v.hi)}
}

// formula is what the bracket of fn at x with precision p is rounded from.
func formula(fn int, x *big.Rat, p int) (pair, api.Errno) {
	var v pair
	switch fn {
	case api.FnExp:
		v = paper(p + 112).exp(x)
	case api.FnLog:
		v = paper(p + 32).log(x)
	case api.FnSin:
		v, _ = paper(p + 64).turn(x)
	case api.FnCos:
		_, v = paper(p + 64).turn(x)
	case api.FnTan:
		var err api.Errno
		if v, err = paper(p + 64).tan(x); err != api.OK {
			return pair{}, err
		}
	case api.FnAsin:
		v = paper(p + 32).asin(x)
	case api.FnAcos:
		w := paper(p + 32)
		pi, cd := w.pi(), w.asin(x)
		v = pair{sub(quo(pi.lo, whole(2)), cd.hi), sub(quo(pi.hi, whole(2)), cd.lo)}
	case api.FnAtan:
		v = paper(p + 32).atan(x)
	}
	return v, api.OK
}

// isExactly checks that the bounds are those of want.
func isExactly(t *testing.T, what string, got [2]fraction.Fraction, want pair) {
	t.Helper()
	for i, w := range []*big.Rat{want.lo, want.hi} {
		g := number(got[i].Num().Decimal() + "/" + got[i].Den().Decimal())
		if got[i].Sign() < 0 {
			g.Neg(g)
		}
		if g.Cmp(w) != 0 {
			t.Errorf("%s: bound %d is %s, want %s", what, i, g.RatString(), w.RatString())
		}
	}
}

// follows checks that Apply and the function itself are what the formula is, and that they are rounded from what the formula is rounded from.
func follows(t *testing.T, fn int, x *big.Rat, p int) {
	t.Helper()
	want, wantErr := formula(fn, x, p)
	what := fmt.Sprintf("%s(%s, %d)", elem.Name(fn), x.RatString(), p)
	if wantErr == api.OK {
		a, _ := fraction.Of(canonical(x))
		isExactly(t, "unrounded "+what, elem.Unrounded(fn, a, p), want)
		want = want.rounded(p)
	}
	b, err := elem.Apply(fn, canonical(x), p)
	expect(t, "Apply of "+what, b, err, want, wantErr)
	b, err = brackets()[fn](canonical(x), p)
	expect(t, what, b, err, want, wantErr)
}

// P2.4, P2.5: Pi follows its formula with every precision.
func TestPi(t *testing.T) {
	for p := 0; p <= api.MaxPrec; p++ {
		b, err := elem.Pi(p)
		w := p + 32
		isExactly(t, fmt.Sprintf("unrounded Pi(%d)", p), elem.UnroundedPi(w), paper(w).pi())
		expect(t, fmt.Sprintf("Pi(%d)", p), b, err, paper(w).pi().rounded(p), api.OK)
	}
	for _, p := range []int{-1, api.MaxPrec + 1, -1 << 63, 1<<63 - 1} {
		b, err := elem.Pi(p)
		expect(t, fmt.Sprintf("Pi(%d)", p), b, err, pair{}, api.ErrArg)
	}
}

// P2.6 to P2.10: every function follows its formula, at random numbers of many sizes.
func TestFormulas(t *testing.T) {
	r := rand.New(rand.NewSource(1))
	for fn := api.FnExp; fn <= api.FnAtan; fn++ {
		for i := range 150 {
			x := fold(fn, random(r, []int{3, 8, 40, 300, 1024}[i%5]))
			if _, ok, _ := elem.Exact(fn, canonical(x)); ok || fn == api.FnLog && x.Sign() == 0 {
				continue
			}
			follows(t, fn, x, r.Intn(api.MaxPrec+1))
		}
	}
}

// edges are numbers at which a formula changes, or at which its numbers are as great or as small as they can be.
func edges() map[int][]*big.Rat {
	tiny, wide := power2(-1023), sub(power2(1024), whole(1))
	angles := []*big.Rat{tiny, power2(-70), number("1/2"), number("11/14"), number("1"), number("11/7"), number("22/7"), number("33/7"), number("710/113"), whole(api.MaxTurn), sub(whole(api.MaxTurn), power2(-900)), number("4294967295"), number("1000000/3")}
	arcs := []*big.Rat{tiny, power2(-33), number("1/2"), number("3/5"), number("255/256"), sub(whole(1), power2(-1000))}
	return map[int][]*big.Rat{
		api.FnExp:  {tiny, power2(-112), power2(-240), number("1/3"), whole(1), whole(63), whole(api.MaxExp), sub(whole(api.MaxExp), power2(-1000))},
		api.FnLog:  {tiny, power2(-1), power2(-33), whole(2), whole(3), power2(1023), wide, quo(whole(1), wide), add(whole(1), power2(-1000)), sub(whole(1), power2(-1000)), number("2/3"), number("3/4"), number("8/3")},
		api.FnSin:  angles,
		api.FnCos:  angles,
		api.FnTan:  angles,
		api.FnAsin: append(arcs, whole(1)),
		api.FnAcos: append(arcs, whole(0)),
		api.FnAtan: append(arcs, whole(1), whole(2), wide, add(whole(1), power2(-1000)), power2(1023)),
	}
}

// P2.6 to P2.10: every function follows its formula at the edges, on both sides of 0 and with extreme precisions.
func TestEdges(t *testing.T) {
	for fn, list := range edges() {
		for _, x := range list {
			for _, p := range []int{0, 1, 31, 64, 127, api.MaxPrec} {
				follows(t, fn, x, p)
				exact := fn == api.FnAcos && x.Cmp(whole(0)) == 0
				if fn != api.FnLog && !exact {
					follows(t, fn, neg(x), p)
				}
			}
		}
	}
}

// P2.8: where the quarter turns change, and where a cosine cannot be told from 0, the formulas decide.
func TestQuarters(t *testing.T) {
	ranges := 0
	for _, p := range []int{0, 64, api.MaxPrec} {
		pi := paper(p + 64).pi()
		for _, n := range []int{-7, -2, -1, 1, 2, 3, 6, 1001, 5468522200} {
			for _, bound := range []*big.Rat{pi.lo, pi.hi, quo(add(pi.lo, pi.hi), whole(2))} {
				x := mul(bound, big.NewRat(int64(n), 4))
				for _, fn := range []int{api.FnSin, api.FnCos, api.FnTan} {
					follows(t, fn, x, p)
					follows(t, fn, add(x, power2(-300)), p)
					follows(t, fn, sub(x, power2(-300)), p)
				}
				if _, err := elem.Tan(canonical(x), p); err == api.ErrRange {
					ranges++
				}
			}
		}
	}
	if ranges == 0 {
		t.Errorf("no tangent was beyond the range")
	}
}

// The examples of the chapter.
func TestExamples(t *testing.T) {
	for _, c := range []struct {
		fn     int
		x      string
		p      int
		lo, hi string
		err    api.Errno
	}{
		{api.FnExp, "0", 5, "1", "1", api.OK},
		{api.FnLog, "1", 9, "0", "0", api.OK},
		{api.FnAcos, "1", 3, "0", "0", api.OK},
		{api.FnExp, "1", 3, "21/8", "11/4", api.OK},
		{api.FnExp, "-64", 10, "0", "1/1024", api.OK},
		{api.FnLog, "2", 2, "1/2", "3/4", api.OK},
		{api.FnSin, "1", 2, "3/4", "1", api.OK},
		{api.FnAtan, "1", 2, "3/4", "1", api.OK},
		{api.FnAsin, "-1", 1, "-2", "-3/2", api.OK},
		{api.FnExp, "65", 4, "0", "0", api.ErrRange},
		{api.FnLog, "0", 4, "0", "0", api.ErrDomain},
		{api.FnLog, "0", 200, "0", "0", api.ErrArg},
	} {
		b, err := elem.Apply(c.fn, rat(c.x), c.p)
		expect(t, fmt.Sprintf("%s(%s, %d)", elem.Name(c.fn), c.x, c.p), b, err, pair{number(c.lo), number(c.hi)}, c.err)
	}
	b, err := elem.Pi(4)
	expect(t, "Pi(4)", b, err, pair{number("25/8"), number("51/16")}, api.OK)
}
