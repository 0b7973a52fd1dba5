package elem_test

import (
	"math/big"
	"math/rand"
	"slices"
	"testing"

	"inequality/api"
	"inequality/elem"
)

// natural returns the sum of words[i] * 2^(32*i).
func natural(words []uint32) *big.Int {
	n := new(big.Int)
	for _, word := range slices.Backward(words) {
		n.Lsh(n, 32).Or(n, big.NewInt(int64(word)))
	}
	return n
}

// value returns what x denotes.
func value(x api.Rat) *big.Rat {
	num, den := natural(x.Num), natural(x.Den)
	if den.Sign() == 0 {
		den.SetInt64(1)
	}
	if x.Neg {
		num.Neg(num)
	}
	return new(big.Rat).SetFrac(num, den)
}

// words returns the words of the absolute value of n, without a most significant word 0.
func words(n *big.Int) []uint32 {
	var list []uint32
	for n = new(big.Int).Abs(n); n.Sign() > 0; n.Rsh(n, 32) {
		list = append(list, uint32(n.Uint64()))
	}
	return list
}

// canonical returns the canonical value of r, of any size.
func canonical(r *big.Rat) api.Rat {
	x := api.Rat{Neg: r.Sign() < 0, Num: words(r.Num())}
	if !r.IsInt() {
		x.Den = words(r.Denom())
	}
	return x
}

// isCanonical checks that x is the canonical value of r.
func isCanonical(x api.Rat, r *big.Rat) bool {
	c := canonical(r)
	return x.Neg == c.Neg && slices.Equal(x.Num, c.Num) && slices.Equal(x.Den, c.Den)
}

// number returns the number of a text in math/big's notation.
func number(text string) *big.Rat {
	r, ok := new(big.Rat).SetString(text)
	if !ok {
		panic(text)
	}
	return r
}

// rat returns the number of a text in math/big's notation, of any size.
func rat(text string) api.Rat {
	return canonical(number(text))
}

// power2 returns 2^n, also for n below 0.
func power2(n int) *big.Rat {
	p := new(big.Rat).SetInt(new(big.Int).Lsh(big.NewInt(1), uint(max(n, -n))))
	if n < 0 {
		p.Inv(p)
	}
	return p
}

// whole returns n as a number.
func whole(n int) *big.Rat { return new(big.Rat).SetInt64(int64(n)) }

func add(a, b *big.Rat) *big.Rat { return new(big.Rat).Add(a, b) }
func sub(a, b *big.Rat) *big.Rat { return new(big.Rat).Sub(a, b) }
func mul(a, b *big.Rat) *big.Rat { return new(big.Rat).Mul(a, b) }
func quo(a, b *big.Rat) *big.Rat { return new(big.Rat).Quo(a, b) }
func neg(a *big.Rat) *big.Rat    { return new(big.Rat).Neg(a) }
func abs(a *big.Rat) *big.Rat    { return new(big.Rat).Abs(a) }

// floor returns the greatest integer that is not greater than a.
func floor(a *big.Rat) *big.Int {
	n := new(big.Int)
	n.DivMod(a.Num(), a.Denom(), new(big.Int))
	return n
}

// down returns the greatest number of the grid of precision p that is not greater than a.
func down(a *big.Rat, p int) *big.Rat {
	return quo(new(big.Rat).SetInt(floor(mul(a, power2(p)))), power2(p))
}

// up returns the least number of the grid of precision p that is not less than a.
func up(a *big.Rat, p int) *big.Rat {
	return neg(down(neg(a), p))
}

// rootDown returns the greatest number of the grid of precision p that is not greater than the square root of a.
func rootDown(a *big.Rat, p int) *big.Rat {
	square := floor(mul(a, power2(2*p)))
	return quo(new(big.Rat).SetInt(square.Sqrt(square)), power2(p))
}

// rootUp returns the least number of the grid of precision p that is not less than the square root of a.
func rootUp(a *big.Rat, p int) *big.Rat {
	r := rootDown(a, p)
	if mul(r, r).Cmp(a) != 0 {
		r.Add(r, power2(-p))
	}
	return r
}

// pair is a lower and an upper bound.
type pair struct{ lo, hi *big.Rat }

// negated is the pair of the opposite number.
func (a pair) negated() pair { return pair{neg(a.hi), neg(a.lo)} }

// rounded is the pair on the grid of precision p.
func (a pair) rounded(p int) pair { return pair{down(a.lo, p), up(a.hi, p)} }

// brackets are the functions, by their numbers.
func brackets() []func(x api.Rat, p int) (api.Bracket, api.Errno) {
	return []func(x api.Rat, p int) (api.Bracket, api.Errno){nil, elem.Exp, elem.Log, elem.Sin, elem.Cos, elem.Tan, elem.Asin, elem.Acos, elem.Atan}
}

// expect checks that b is exactly want in canonical numbers, or, if wantErr is an error, that b is zero.
func expect(t *testing.T, what string, b api.Bracket, err api.Errno, want pair, wantErr api.Errno) {
	t.Helper()
	if err != wantErr {
		t.Errorf("%s: error %d, want %d", what, err, wantErr)
		return
	}
	if err != api.OK {
		want = pair{new(big.Rat), new(big.Rat)}
	}
	if !isCanonical(b.Lo, want.lo) || !isCanonical(b.Hi, want.hi) {
		t.Errorf("%s is %s and %s, want %s and %s", what, value(b.Lo).RatString(), value(b.Hi).RatString(), want.lo.RatString(), want.hi.RatString())
	}
}

// bracket returns the bracket of fn at x as a pair, where there is no error.
func bracket(t *testing.T, fn int, x *big.Rat, p int) pair {
	t.Helper()
	b, err := elem.Apply(fn, canonical(x), p)
	if err != api.OK {
		t.Fatalf("%s of %s with precision %d: error %d", elem.Name(fn), x.RatString(), p, err)
	}
	return pair{value(b.Lo), value(b.Hi)}
}

// random returns a number of at most n bits in the numerator and the denominator.
func random(r *rand.Rand, n int) *big.Rat {
	num := new(big.Int).Rand(r, new(big.Int).Lsh(big.NewInt(1), uint(r.Intn(n+1))))
	den := new(big.Int).Rand(r, new(big.Int).Lsh(big.NewInt(1), uint(r.Intn(n))))
	if r.Intn(3) == 0 { // grid numbers are what the layers above ask for
		den = new(big.Int).Lsh(big.NewInt(1), uint(r.Intn(n)))
		den.Sub(den, big.NewInt(1))
	}
	x := new(big.Rat).SetFrac(num, den.Add(den, big.NewInt(1)))
	if r.Intn(2) == 0 {
		x.Neg(x)
	}
	return x
}

// fold returns a number of the domain and the range of fn that x is turned into, 0 and 1 being unlikely.
func fold(fn int, x *big.Rat) *big.Rat {
	limit := map[int]*big.Rat{api.FnExp: whole(api.MaxExp), api.FnSin: whole(api.MaxTurn), api.FnCos: whole(api.MaxTurn), api.FnTan: whole(api.MaxTurn), api.FnAsin: whole(1), api.FnAcos: whole(1)}[fn]
	switch {
	case fn == api.FnLog:
		return abs(x)
	case limit == nil || abs(x).Cmp(limit) <= 0:
		return x
	case fn == api.FnAsin || fn == api.FnAcos:
		return new(big.Rat).Inv(x)
	}
	n := new(big.Rat).SetInt(floor(quo(x, limit)))
	return sub(x, mul(n, limit))
}
