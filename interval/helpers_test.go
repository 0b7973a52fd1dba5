package interval_test

import (
	"math/big"
	"math/rand"
	"slices"
	"strings"
	"testing"

	"inequality/api"
)

// natural returns the sum of words[i] * 2^(32*i).
func natural(words []uint32) *big.Int {
	n := new(big.Int)
	for _, word := range slices.Backward(words) {
		n.Lsh(n, 32).Or(n, big.NewInt(int64(word)))
	}
	return n
}

// value returns what x denotes.
func value(x api.Rat) *big.Rat {
	num, den := natural(x.Num), natural(x.Den)
	if den.Sign() == 0 {
		den.SetInt64(1)
	}
	if x.Neg {
		num.Neg(num)
	}
	return new(big.Rat).SetFrac(num, den)
}

// words returns the words of the absolute value of n, without a most significant word 0.
func words(n *big.Int) []uint32 {
	var list []uint32
	for n = new(big.Int).Abs(n); n.Sign() > 0; n.Rsh(n, 32) {
		list = append(list, uint32(n.Uint64()))
	}
	return list
}

// canonical returns the canonical value of r, of any size.
func canonical(r *big.Rat) api.Rat {
	x := api.Rat{Neg: r.Sign() < 0, Num: words(r.Num())}
	if !r.IsInt() {
		x.Den = words(r.Denom())
	}
	return x
}

// same reports whether x and y have the same fields. An empty list and nil are the same.
func same(x, y api.Rat) bool {
	return x.Neg == y.Neg && slices.Equal(x.Num, y.Num) && slices.Equal(x.Den, y.Den)
}

// number returns the number of a text in math/big's notation, or of `2^n` with an integer n and perhaps `-` in front or `-1` behind.
func number(text string) *big.Rat {
	size, minus := strings.CutPrefix(text, "-2^")
	if size, ok := strings.CutPrefix(size, "2^"); ok || minus {
		size, less := strings.CutSuffix(size, "-1")
		n, _ := new(big.Int).SetString(size, 10)
		r := power2(int(n.Int64()))
		if less {
			r.Sub(r, whole(1))
		}
		if minus {
			r.Neg(r)
		}
		return r
	}
	r, ok := new(big.Rat).SetString(text)
	if !ok {
		panic(text)
	}
	return r
}

// rat returns the number of a text, of any size.
func rat(text string) api.Rat {
	return canonical(number(text))
}

// power2 returns 2^n, also for n below 0.
func power2(n int) *big.Rat {
	p := new(big.Rat).SetInt(new(big.Int).Lsh(big.NewInt(1), uint(max(n, -n))))
	if n < 0 {
		p.Inv(p)
	}
	return p
}

func whole(n int) *big.Rat       { return new(big.Rat).SetInt64(int64(n)) }
func add(a, b *big.Rat) *big.Rat { return new(big.Rat).Add(a, b) }
func sub(a, b *big.Rat) *big.Rat { return new(big.Rat).Sub(a, b) }
func mul(a, b *big.Rat) *big.Rat { return new(big.Rat).Mul(a, b) }
func quo(a, b *big.Rat) *big.Rat { return new(big.Rat).Quo(a, b) }
func neg(a *big.Rat) *big.Rat    { return new(big.Rat).Neg(a) }

// lesser returns the least number.
func lesser(list ...*big.Rat) *big.Rat { return slices.MinFunc(list, (*big.Rat).Cmp) }

// greater returns the greatest number.
func greater(list ...*big.Rat) *big.Rat { return slices.MaxFunc(list, (*big.Rat).Cmp) }

// down returns the greatest number of the grid of precision p that is not greater than a.
func down(a *big.Rat, p int) *big.Rat {
	n := mul(a, power2(p))
	floor := new(big.Int)
	floor.DivMod(n.Num(), n.Denom(), new(big.Int))
	return quo(new(big.Rat).SetInt(floor), power2(p))
}

// up returns the least number of the grid of precision p that is not less than a.
func up(a *big.Rat, p int) *big.Rat {
	return neg(down(neg(a), p))
}

// model is what an interval denotes. An infinite end is nil.
type model struct {
	lo, hi *big.Rat
	empty  bool
}

// meaning returns what a denotes.
func meaning(a api.Interval) model {
	var m model
	if !a.LoInf {
		m.lo = value(a.Lo)
	}
	if !a.HiInf {
		m.hi = value(a.Hi)
	}
	if m.lo != nil && m.hi != nil && m.lo.Cmp(m.hi) > 0 {
		return model{empty: true}
	}
	return m
}

// interval returns the canonical interval.
func (m model) interval() api.Interval {
	if m.empty {
		return api.Interval{Lo: canonical(whole(1))}
	}
	a := api.Interval{LoInf: m.lo == nil, HiInf: m.hi == nil}
	if m.lo != nil {
		a.Lo = canonical(m.lo)
	}
	if m.hi != nil {
		a.Hi = canonical(m.hi)
	}
	return a
}

// iv returns the interval of a text: `empty`, or two ends as in `[1/2, inf)`.
func iv(text string) api.Interval {
	if text == "empty" {
		return model{empty: true}.interval()
	}
	lo, hi, _ := strings.Cut(strings.Trim(text, "[]()"), ", ")
	var a api.Interval
	if a.LoInf = lo == "-inf"; !a.LoInf {
		a.Lo = rat(lo)
	}
	if a.HiInf = hi == "inf"; !a.HiInf {
		a.Hi = rat(hi)
	}
	return a
}

// short returns a text of x in which a long number has only its length.
func short(x api.Rat) string {
	if s := value(x).RatString(); len(s) < 60 {
		return s
	}
	return value(x).FloatString(20)
}

// text returns the text of an interval for messages.
func text(a api.Interval) string {
	m := meaning(a)
	if m.empty {
		return "empty"
	}
	lo, hi := "(-inf", "inf)"
	if m.lo != nil {
		lo = "[" + short(a.Lo)
	}
	if m.hi != nil {
		hi = short(a.Hi) + "]"
	}
	return lo + ", " + hi
}

// identical reports whether a and b have the same fields.
func identical(a, b api.Interval) bool {
	return same(a.Lo, b.Lo) && same(a.Hi, b.Hi) && a.LoInf == b.LoInf && a.HiInf == b.HiInf
}

// expect checks that got is exactly want, or, if wantErr is an error, that got is zero.
func expect(t *testing.T, what string, got api.Interval, err api.Errno, want api.Interval, wantErr api.Errno) {
	t.Helper()
	if wantErr != api.OK {
		want = api.Interval{}
	}
	if err != wantErr || !identical(got, want) {
		t.Errorf("%s is %s (%v), error %d; want %s, error %d", what, text(got), got, err, text(want), wantErr)
	}
}

// disguised returns a number equal to x that is not canonical.
func disguised(r *rand.Rand, x api.Rat) api.Rat {
	v, factor := value(x), big.NewInt(int64(1+r.Intn(1000)))
	zeros := make([]uint32, 3)
	y := api.Rat{Neg: x.Neg, Num: words(new(big.Int).Mul(v.Num(), factor)), Den: words(new(big.Int).Mul(v.Denom(), factor))}
	if v.Sign() == 0 {
		y = api.Rat{Neg: r.Intn(2) == 0, Den: zeros[:r.Intn(3)]}
	}
	y.Num, y.Den = append(y.Num, zeros[:r.Intn(3)]...), append(y.Den, zeros[:r.Intn(3)]...)
	return y
}

// disguise returns an interval equal to a that is not canonical.
func disguise(r *rand.Rand, a api.Interval) api.Interval {
	m := meaning(a)
	if m.empty {
		x := random(r, 20)
		y := sub(x, greater(power2(-9), new(big.Rat).Abs(random(r, 20))))
		return api.Interval{Lo: disguised(r, canonical(x)), Hi: disguised(r, canonical(y))}
	}
	b := api.Interval{Lo: disguised(r, a.Lo), Hi: disguised(r, a.Hi), LoInf: a.LoInf, HiInf: a.HiInf}
	if a.LoInf { // what is not looked at may be anything
		b.Lo = disguised(r, canonical(random(r, 30)))
	}
	if a.HiInf {
		b.Hi = disguised(r, canonical(random(r, 30)))
	}
	return b
}

// random returns a number with at most n bits in its numerator and its denominator.
func random(r *rand.Rand, n int) *big.Rat {
	num := new(big.Int).Rand(r, new(big.Int).Lsh(big.NewInt(1), uint(r.Intn(n+1))))
	den := new(big.Int).Rand(r, new(big.Int).Lsh(big.NewInt(1), uint(r.Intn(n))))
	if r.Intn(3) == 0 { // grid numbers are what the layers above have mostly
		den.Sub(new(big.Int).Lsh(big.NewInt(1), uint(r.Intn(n))), big.NewInt(1))
	}
	x := new(big.Rat).SetFrac(num, den.Add(den, big.NewInt(1)))
	if r.Intn(2) == 0 {
		x.Neg(x)
	}
	return x
}

// randomModel returns an interval with numbers of at most n bits, often one that is empty, unbounded, a point, or one with an end at 0.
func randomModel(r *rand.Rand, n int) model {
	x, y := random(r, n), random(r, n)
	if r.Intn(6) == 0 {
		x = whole(0)
	}
	if x.Cmp(y) > 0 {
		x, y = y, x
	}
	switch r.Intn(9) {
	case 0:
		return model{empty: true}
	case 1:
		return model{lo: x}
	case 2:
		return model{hi: y}
	case 3:
		return model{lo: x, hi: x}
	case 4:
		return [...]model{{}, {lo: y}, {hi: x}}[r.Intn(3)]
	}
	return model{lo: x, hi: y}
}

// pairs calls visit with pairs of random intervals with numbers of at most n bits, which are not canonical mostly.
func pairs(seed int64, count, n int, visit func(r *rand.Rand, a, b api.Interval)) {
	r := rand.New(rand.NewSource(seed))
	for range count {
		a, b := randomModel(r, n).interval(), randomModel(r, n).interval()
		if r.Intn(3) > 0 {
			a, b = disguise(r, a), disguise(r, b)
		}
		visit(r, a, b)
	}
}

// member returns a number of a set that is not empty.
func (m model) member(r *rand.Rand) *big.Rat {
	far := new(big.Rat).Abs(random(r, 12))
	switch {
	case m.lo == nil && m.hi == nil:
		return random(r, 12)
	case m.lo == nil:
		return sub(m.hi, far)
	case m.hi == nil:
		return add(m.lo, far)
	}
	share := new(big.Rat).SetFrac64(int64(r.Intn(9)), 8)
	return add(m.lo, mul(share, sub(m.hi, m.lo)))
}

// has reports whether x is in the set.
func (m model) has(x *big.Rat) bool {
	return !m.empty && (m.lo == nil || m.lo.Cmp(x) <= 0) && (m.hi == nil || x.Cmp(m.hi) <= 0)
}

// inside reports whether all numbers of m are in o.
func (m model) inside(o model) bool {
	low := o.lo == nil || m.lo != nil && o.lo.Cmp(m.lo) <= 0
	high := o.hi == nil || m.hi != nil && m.hi.Cmp(o.hi) <= 0
	return m.empty || !o.empty && low && high
}
