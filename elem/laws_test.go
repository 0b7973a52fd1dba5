package elem_test

import (
	"math/big"
	"math/rand"
	"testing"

	"inequality/api"
	"inequality/elem"
)

// The values below are formed in another way than the chapter does, with a fixed point and much greater precision. Their errors are far below margin.
const point = 900

// margin is more than the errors of the values.
var margin = power2(-700)

// fixed returns x as a number of units of 2^-point.
func fixed(x *big.Rat) *big.Int { return floor(mul(x, power2(point))) }

// unfixed is the inverse of fixed.
func unfixed(n *big.Int) *big.Rat { return quo(new(big.Rat).SetInt(n), power2(point)) }

// times is the product of two numbers of units.
func times(a, b *big.Int) *big.Int {
	n := new(big.Int).Mul(a, b)
	return n.Rsh(n, point)
}

// exponential returns the exponential of x, from the series of x / 2^20.
func exponential(x *big.Rat) *big.Rat {
	y := fixed(quo(x, power2(20)))
	term := fixed(whole(1))
	sum := new(big.Int).Set(term)
	for i := int64(1); term.CmpAbs(big.NewInt(1)) > 0; i++ {
		term = times(term, y)
		term.Quo(term, big.NewInt(i))
		sum.Add(sum, term)
	}
	for range 20 {
		sum = times(sum, sum)
	}
	return unfixed(sum)
}

// circle returns the sine and the cosine of x, from the series of x / 2^40.
func circle(x *big.Rat) (sine, cosine *big.Rat) {
	y := fixed(quo(x, power2(40)))
	term := fixed(whole(1))
	sums := [4]*big.Int{new(big.Int), new(big.Int), new(big.Int), new(big.Int)}
	for i := int64(1); term.CmpAbs(big.NewInt(1)) > 0; i++ {
		sum := sums[(i-1)%4]
		sum.Add(sum, term)
		term = times(term, y)
		term.Quo(term, big.NewInt(i))
	}
	c, s := sums[0].Sub(sums[0], sums[2]), sums[1].Sub(sums[1], sums[3])
	for range 40 {
		product := times(s, c)
		c = times(c, c)
		s = product.Lsh(product, 1)
		c = c.Lsh(c, 1).Sub(c, fixed(whole(1)))
	}
	return unfixed(s), unfixed(c)
}

// before checks that a is at most b, but for the errors.
func before(t *testing.T, what string, a, b *big.Rat) {
	t.Helper()
	if a.Cmp(add(b, margin)) > 0 {
		x, _ := a.Float64()
		y, _ := b.Float64()
		t.Errorf("%s: %g exceeds %g", what, x, y)
	}
}

// holds checks that the value of fn at x is in the bracket b.
func holds(t *testing.T, fn int, x *big.Rat, b pair) {
	t.Helper()
	what := elem.Name(fn) + " " + x.RatString()
	right := exactPi()
	right.Quo(right, whole(2))
	switch fn {
	case api.FnExp:
		v := exponential(x)
		before(t, what, b.lo, v)
		before(t, what, v, b.hi)
	case api.FnLog:
		before(t, what, quo(exponential(b.lo), x), whole(1))
		before(t, what, whole(1), quo(exponential(b.hi), x))
	case api.FnSin, api.FnCos, api.FnTan:
		s, c := circle(x)
		v := map[int]*big.Rat{api.FnSin: s, api.FnCos: c, api.FnTan: quo(s, c)}[fn]
		before(t, what, b.lo, v)
		before(t, what, v, b.hi)
	case api.FnAsin, api.FnAcos:
		l, h := b.lo, b.hi
		if fn == api.FnAcos { // pi/2 - acos is asin
			l, h = sub(right, b.hi), sub(right, b.lo)
		}
		if l.Cmp(neg(right)) > 0 {
			s, _ := circle(l)
			before(t, what, s, x)
		}
		if h.Cmp(right) < 0 {
			s, _ := circle(h)
			before(t, what, x, s)
		}
	case api.FnAtan:
		if b.lo.Cmp(neg(right)) > 0 {
			s, c := circle(b.lo)
			before(t, what, quo(s, c), x)
		}
		if b.hi.Cmp(right) < 0 {
			s, c := circle(b.hi)
			before(t, what, x, quo(s, c))
		}
	}
}

// exactPi returns pi up to about 2^-800, by Newton's method for the sine.
func exactPi() *big.Rat {
	x := big.NewRat(22, 7)
	for range 9 {
		s, _ := circle(x)
		x = down(add(x, s), point)
	}
	return x
}

// points calls visit for every function with arguments at which it has a bracket that is not exact.
func points(seed int64, count int, visit func(r *rand.Rand, fn int, x *big.Rat)) {
	r := rand.New(rand.NewSource(seed))
	for fn := api.FnExp; fn <= api.FnAtan; fn++ {
		for i := range count {
			x := fold(fn, random(r, []int{3, 7, 20, 60, 200}[i%5]))
			if x.Sign() != 0 && abs(x).Cmp(whole(1)) != 0 {
				visit(r, fn, x)
			}
		}
	}
}

// P2.12: the value is in the bracket, which is at most two grid steps wide but for tan. Its ends are on the grid.
func TestBrackets(t *testing.T) {
	points(3, 60, func(r *rand.Rand, fn int, x *big.Rat) {
		p := r.Intn(api.MaxPrec + 1)
		b := bracket(t, fn, x, p)
		holds(t, fn, x, b)
		steps := mul(sub(b.hi, b.lo), power2(p))
		if b.lo.Cmp(down(b.lo, p)) != 0 || b.hi.Cmp(up(b.hi, p)) != 0 || steps.Sign() < 0 || fn != api.FnTan && steps.Cmp(whole(2)) > 0 {
			t.Errorf("%s(%s, %d) is %s and %s", elem.Name(fn), x.RatString(), p, b.lo.RatString(), b.hi.RatString())
		}
	})
	for p := 0; p <= api.MaxPrec; p++ {
		b, _ := elem.Pi(p)
		before(t, "Pi", value(b.Lo), exactPi())
		before(t, "Pi", exactPi(), value(b.Hi))
		if sub(value(b.Hi), value(b.Lo)).Cmp(mul(whole(2), power2(-p))) > 0 {
			t.Errorf("Pi(%d) is too wide", p)
		}
	}
}

// P2.12: the brackets at the edges hold the value too.
func TestEdgeBrackets(t *testing.T) {
	for fn, list := range edges() {
		for _, x := range list {
			if x.Cmp(power2(-500)) > 0 && x.Cmp(power2(200)) < 0 { // where the margin allows
				holds(t, fn, x, bracket(t, fn, x, api.MaxPrec))
				holds(t, fn, x, bracket(t, fn, x, 3))
			}
		}
	}
}

// P2.13: the identities.
func TestIdentities(t *testing.T) {
	one := whole(1)
	points(4, 60, func(r *rand.Rand, fn int, x *big.Rat) {
		p := r.Intn(api.MaxPrec + 1)
		switch fn {
		case api.FnExp:
			a, b := bracket(t, fn, x, p), bracket(t, fn, neg(x), p)
			if mul(a.lo, b.lo).Cmp(one) > 0 || mul(a.hi, b.hi).Cmp(one) < 0 {
				t.Errorf("exp of %s and of its opposite with precision %d", x.RatString(), p)
			}
		case api.FnSin:
			a, b := squares(bracket(t, fn, x, p)), squares(bracket(t, api.FnCos, x, p))
			if add(a.lo, b.lo).Cmp(one) > 0 || add(a.hi, b.hi).Cmp(one) < 0 {
				t.Errorf("the squares of sin and cos of %s with precision %d", x.RatString(), p)
			}
		case api.FnLog:
			y := fold(fn, random(r, 100))
			if y.Sign() == 0 {
				y = number("2/7")
			}
			a, b, c := bracket(t, fn, x, p), bracket(t, fn, y, p), bracket(t, fn, mul(x, y), p)
			if add(a.lo, b.lo).Cmp(c.hi) > 0 || add(a.hi, b.hi).Cmp(c.lo) < 0 {
				t.Errorf("log of %s and of %s with precision %d", x.RatString(), y.RatString(), p)
			}
		}
	})
}

// squares returns the least and the greatest square of a number of the pair.
func squares(a pair) pair {
	l, h := mul(a.lo, a.lo), mul(a.hi, a.hi)
	if l.Cmp(h) > 0 {
		l, h = h, l
	}
	if a.lo.Sign() <= 0 && a.hi.Sign() >= 0 {
		l = whole(0)
	}
	return pair{l, h}
}

// P2.14: which functions are odd, and which are even.
func TestParity(t *testing.T) {
	points(5, 40, func(r *rand.Rand, fn int, x *big.Rat) {
		p := r.Intn(api.MaxPrec + 1)
		if fn == api.FnExp || fn == api.FnLog || fn == api.FnAcos {
			return
		}
		a, b := bracket(t, fn, x, p), bracket(t, fn, neg(x), p)
		if fn != api.FnCos {
			b = b.negated()
		}
		if a.lo.Cmp(b.lo) != 0 || a.hi.Cmp(b.hi) != 0 {
			t.Errorf("%s of %s and of its opposite with precision %d", elem.Name(fn), x.RatString(), p)
		}
	})
}

// P2.15: brackets of one value have a number in common.
func TestPrecisions(t *testing.T) {
	points(6, 40, func(r *rand.Rand, fn int, x *big.Rat) {
		p, q := r.Intn(api.MaxPrec+1), r.Intn(api.MaxPrec+1)
		a, b := bracket(t, fn, x, p), bracket(t, fn, x, q)
		if a.lo.Cmp(b.hi) > 0 || b.lo.Cmp(a.hi) > 0 {
			t.Errorf("%s(%s) with the precisions %d and %d", elem.Name(fn), x.RatString(), p, q)
		}
	})
	for p := range api.MaxPrec {
		a, _ := elem.Pi(p)
		b, _ := elem.Pi(p + 1)
		if value(a.Lo).Cmp(value(b.Hi)) > 0 || value(b.Lo).Cmp(value(a.Hi)) > 0 {
			t.Errorf("Pi(%d) and Pi(%d) have no number in common", p, p+1)
		}
	}
}
