package natural

import (
	"math/big"
	"math/rand"
	"slices"
	"strings"
	"testing"
)

// wide returns a as a number of math/big.
func wide(a Nat) *big.Int {
	n := new(big.Int)
	for i := len(a) - 1; i >= 0; i-- {
		n.Lsh(n, 32).Or(n, big.NewInt(int64(a[i])))
	}
	return n
}

// is checks that got is want, without a most significant word 0.
func is(t *testing.T, what string, got Nat, want *big.Int) {
	t.Helper()
	if len(got) > 0 && got[len(got)-1] == 0 || wide(got).Cmp(want) != 0 {
		t.Errorf("%s is %v, want %s", what, got, want)
	}
}

// sample returns a number of at most n words, often with words at which carries and estimates are at their limits.
func sample(r *rand.Rand, n int) Nat {
	special := []uint32{0, 0, 1, 1<<31 - 1, 1 << 31, 1<<31 + 1, 1<<32 - 2, 1<<32 - 1, 1<<32 - 1}
	list := make([]uint32, r.Intn(n+1))
	for i := range list {
		list[i] = r.Uint32()
		if r.Intn(2) == 0 {
			list[i] = special[r.Intn(len(special))]
		}
	}
	return Of(list)
}

// pairs calls visit with pairs of numbers of many sizes, and checks that it leaves them as they are.
func pairs(t *testing.T, visit func(r *rand.Rand, a, b Nat)) {
	r := rand.New(rand.NewSource(1))
	for _, n := range []int{1, 2, 3, 4, 8, 40, 130} {
		for range 400 {
			a, b := sample(r, n), sample(r, 1+r.Intn(n))
			x, y := slices.Clone(a), slices.Clone(b)
			visit(r, a, b)
			if !slices.Equal(a, x) || !slices.Equal(b, y) {
				t.Errorf("%v and %v have become %v and %v", x, y, a, b)
			}
		}
	}
}

func TestArithmetic(t *testing.T) {
	pairs(t, func(r *rand.Rand, a, b Nat) {
		x, y := wide(a), wide(b)
		is(t, "Add", a.Add(b), new(big.Int).Add(x, y))
		is(t, "Mul", a.Mul(b), new(big.Int).Mul(x, y))
		if a.Compare(b) != x.Cmp(y) || a.Compare(a) != 0 {
			t.Errorf("Compare(%v, %v) is %d", a, b, a.Compare(b))
		}
		if x.Cmp(y) >= 0 {
			is(t, "Sub", a.Sub(b), new(big.Int).Sub(x, y))
		}
		is(t, "Sub of itself", a.Sub(a), new(big.Int))
		n := r.Intn(100)
		is(t, "Shl", a.Shl(n), new(big.Int).Lsh(x, uint(n)))
		is(t, "Shr", a.Shr(n), new(big.Int).Rsh(x, uint(n)))
		if a.Bits() != x.BitLen() || a.Zeros() != int(x.TrailingZeroBits()) {
			t.Errorf("%v has %d bits, %d zeros", a, a.Bits(), a.Zeros())
		}
		if a.IsZero() != (x.Sign() == 0) || a.IsOne() != (x.Cmp(big.NewInt(1)) == 0) {
			t.Errorf("%v is 0: %v, is 1: %v", a, a.IsZero(), a.IsOne())
		}
	})
	for _, n := range []uint64{0, 1, 1<<32 - 1, 1 << 32, 1<<64 - 1} {
		is(t, "FromUint", FromUint(n), new(big.Int).SetUint64(n))
	}
}

func TestDiv(t *testing.T) {
	check := func(a, b Nat) {
		q, r := a.Div(b)
		x, y := new(big.Int).QuoRem(wide(a), wide(b), new(big.Int))
		is(t, "quotient", q, x)
		is(t, "remainder", r, y)
	}
	pairs(t, func(r *rand.Rand, a, b Nat) {
		if b.IsZero() {
			return
		}
		check(a, b)
		check(a.Mul(b), b)
		check(a.Mul(b).Add(b.Sub(FromUint(1))), b)
		check(a, FromUint(1).Shl(r.Intn(200)))
	})
	// Here the estimate of a word is 1 too great even after it has been corrected.
	check(Nat{0, 0, 1 << 31, 1<<31 - 1}, Nat{1, 0, 1 << 31})
	check(Nat{3, 0, 1 << 31}, Nat{1, 0, 1 << 29})
	// And here it begins with more than a word.
	check(Nat{0, 1<<31 + 5, 1 << 31}, Nat{1<<32 - 1, 1 << 31})
	check(Nat{0, 1<<32 - 2, 1 << 31}, Nat{1<<32 - 1, 1 << 31})
}

func TestGcd(t *testing.T) {
	check := func(a, b Nat) {
		want := new(big.Int).GCD(nil, nil, wide(a), wide(b))
		is(t, "Gcd", a.Gcd(b), want)
		is(t, "Gcd", b.Gcd(a), want)
	}
	pairs(t, func(r *rand.Rand, a, b Nat) {
		check(a, b)
		factor := sample(r, 20)
		check(a.Mul(factor), b.Mul(factor))
		check(a, a)
		check(a.Mul(b), b)
		check(a.Add(FromUint(1)), a)
	})
	check(nil, nil)
	last, next := FromUint(1), FromUint(1) // Fibonacci numbers take the most steps
	for range 3000 {
		last, next = next, last.Add(next)
	}
	check(last, next)
	check(last.Mul(last), next.Mul(last))
}

func TestPowRoot(t *testing.T) {
	pairs(t, func(r *rand.Rand, a, b Nat) {
		n := 1 + r.Intn(8)
		is(t, "Pow", b.Pow(n), new(big.Int).Exp(wide(b), big.NewInt(int64(n)), nil))
		root := a.Root(n)
		if root.Pow(n).Compare(a) > 0 || root.Add(FromUint(1)).Pow(n).Compare(a) <= 0 {
			t.Errorf("Root(%v, %d) is %v", a, n, root)
		}
	})
	is(t, "0 to 0", Nat(nil).Pow(0), big.NewInt(1))
	is(t, "root of 0", Nat(nil).Root(3), new(big.Int))
	for _, c := range [][3]uint64{{1, 2, 1}, {3, 2, 1}, {4, 2, 2}, {8, 3, 2}, {26, 3, 2}, {27, 3, 3}, {255, 8, 1}, {256, 8, 2}, {1<<64 - 1, 2, 1<<32 - 1}} {
		is(t, "root", FromUint(c[0]).Root(int(c[1])), new(big.Int).SetUint64(c[2]))
	}
}

func TestDecimal(t *testing.T) {
	pairs(t, func(r *rand.Rand, a, b Nat) {
		text := wide(a).String()
		if a.Decimal() != text {
			t.Errorf("Decimal is %s, want %s", a.Decimal(), text)
		}
		is(t, text, FromDecimal(text), wide(a))
		is(t, text, FromDecimal(strings.Repeat("0", r.Intn(20))+text), wide(a))
	})
	for n := range 30 {
		text := "1" + strings.Repeat("0", n)
		if s := FromDecimal(text).Decimal(); s != text {
			t.Errorf("%s is written %s", text, s)
		}
	}
	is(t, "no digits", FromDecimal(""), new(big.Int))
}
