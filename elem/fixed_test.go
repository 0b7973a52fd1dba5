package elem

import (
	"math/big"
	"math/rand"
	"testing"

	"inequality/natural"
)

// wide returns f as a number of math/big.
func wide(f fixed) *big.Int {
	n := new(big.Int)
	for i := fixedWords - 1; i >= 0; i-- {
		n.Lsh(n, 64).Or(n, new(big.Int).SetUint64(f[i]))
	}
	return n
}

// sample returns a number of at most n words, of which many are at a limit, so that carries go through several of them.
func sample(r *rand.Rand, n int) fixed {
	var f fixed
	for i := range f[:r.Intn(n+1)] {
		f[i] = []uint64{0, 1, 1<<64 - 1, 1 << 63, r.Uint64(), r.Uint64()}[r.Intn(6)]
	}
	return f
}

// The operations on fixed numbers are exact, and cut off what they say.
func TestFixed(t *testing.T) {
	is := func(what string, got fixed, want *big.Int) {
		t.Helper()
		if wide(got).Cmp(want) != 0 {
			t.Errorf("%s is %d, want %d", what, wide(got), want)
		}
	}
	r := rand.New(rand.NewSource(1))
	for range 5000 {
		f, g := sample(r, fixedWords-1), sample(r, fixedWords-1)
		if wide(f).Cmp(wide(g)) < 0 {
			f, g = g, f
		}
		x, y := wide(f), wide(g)
		is("plus", f.plus(g), new(big.Int).Add(x, y))
		is("minus", f.minus(g), new(big.Int).Sub(x, y))
		n := r.Uint64()>>r.Intn(64) | 1
		is("times", f.times(n), new(big.Int).Mul(x, new(big.Int).SetUint64(n)))
		quotient, rest := new(big.Int).DivMod(x, new(big.Int).SetUint64(n), new(big.Int))
		is("over, down", down(f.over(n)), quotient)
		if rest.Sign() != 0 {
			quotient.Add(quotient, big.NewInt(1))
		}
		is("over, up", up(f.over(n)), quotient)
		is("fixedOf", fixedOf(f.natural()), x)
	}
}

// Products are exact too, with all working precisions that there are.
func TestMultiply(t *testing.T) {
	r := rand.New(rand.NewSource(2))
	for w := precision(32); w <= 240; w++ {
		for range 40 {
			f, g := sample(r, 4), sample(r, 4)
			product := new(big.Int).Mul(wide(f), wide(g))
			low := new(big.Int).Rsh(product, uint(w))
			if low.BitLen() > 64*fixedWords {
				continue
			}
			high := new(big.Int).Set(low)
			if product.TrailingZeroBits() < uint(w) && product.Sign() != 0 {
				high.Add(high, big.NewInt(1))
			}
			if got := w.product(bounds{f, f}, bounds{g, g}); wide(got[0]).Cmp(low) != 0 || wide(got[1]).Cmp(high) != 0 {
				t.Errorf("the product of %d and %d with precision %d is %d and %d", wide(f), wide(g), w, wide(got[0]), wide(got[1]))
			}
		}
		one := natural.FromUint(1).Shl(int(w))
		if w.units(1) != fixedOf(one) || w.units(1<<40+3) != fixedOf(one.Mul(natural.FromUint(1<<40+3))) {
			t.Errorf("units with precision %d: %v", w, w.units(1))
		}
	}
}
