package number_test

import (
	"math/big"
	"math/rand"
	"reflect"
	"slices"
	"testing"

	"inequality/api"
	"inequality/number"
)

// natural returns the sum of words[i] * 2^(32*i).
func natural(words []uint32) *big.Int {
	n := new(big.Int)
	for i := len(words) - 1; i >= 0; i-- {
		n.Lsh(n, 32).Or(n, big.NewInt(int64(words[i])))
	}
	return n
}

// value returns what x denotes.
func value(x api.Rat) *big.Rat {
	num, den := natural(x.Num), natural(x.Den)
	if den.Sign() == 0 {
		den.SetInt64(1)
	}
	if x.Neg {
		num.Neg(num)
	}
	return new(big.Rat).SetFrac(num, den)
}

// words returns the words of the absolute value of n, without a most significant word 0.
func words(n *big.Int) []uint32 {
	var list []uint32
	for n = new(big.Int).Abs(n); n.Sign() > 0; n.Rsh(n, 32) {
		list = append(list, uint32(n.Uint64()))
	}
	return list
}

// canonical returns the canonical value of r, of any size.
func canonical(r *big.Rat) api.Rat {
	x := api.Rat{Neg: r.Sign() < 0, Num: words(r.Num())}
	if !r.IsInt() {
		x.Den = words(r.Denom())
	}
	return x
}

// isLarge is the definition of a large number.
func isLarge(x api.Rat) bool {
	c := canonical(value(x))
	raw := max(len(words(natural(x.Num))), len(words(natural(x.Den))))
	return max(len(c.Num), len(c.Den)) > api.MaxWords || raw > 4*api.MaxWords
}

// same reports whether x and y have the same fields. An empty list and nil are the same.
func same(x, y api.Rat) bool {
	return x.Neg == y.Neg && slices.Equal(x.Num, y.Num) && slices.Equal(x.Den, y.Den)
}

// clone returns a copy of x.
func clone(x api.Rat) api.Rat {
	return api.Rat{Neg: x.Neg, Num: slices.Clone(x.Num), Den: slices.Clone(x.Den)}
}

// rat returns the number of a text in math/big's notation, of any size.
func rat(text string) api.Rat {
	r, ok := new(big.Rat).SetString(text)
	if !ok {
		panic(text)
	}
	return canonical(r)
}

// power2 returns 2^n + add, of any size.
func power2(n uint, add int64) api.Rat {
	p := new(big.Int).Lsh(big.NewInt(1), n)
	return canonical(new(big.Rat).SetInt(p.Add(p, big.NewInt(add))))
}

// inverse returns 1 / x.
func inverse(x api.Rat) api.Rat {
	return canonical(new(big.Rat).Inv(value(x)))
}

// opposite returns -x.
func opposite(x api.Rat) api.Rat {
	return canonical(new(big.Rat).Neg(value(x)))
}

// expect checks that x is exactly the canonical value of want, or, if wantErr is an error, that x is 0.
func expect(t *testing.T, what string, x api.Rat, err api.Errno, want *big.Rat, wantErr api.Errno) {
	t.Helper()
	if err != wantErr {
		t.Errorf("%s: error %d, want %d", what, err, wantErr)
		return
	}
	if err != api.OK {
		want = new(big.Rat)
	}
	if !same(x, canonical(want)) {
		t.Errorf("%s is %v, want %s", what, x, want.RatString())
	}
}

// fits returns ErrSize if the result r is large.
func fits(r *big.Rat) api.Errno {
	if isLarge(canonical(r)) {
		return api.ErrSize
	}
	return api.OK
}

// fresh checks that the call left its arguments as they were, and that its result shares no memory with them.
func fresh(t *testing.T, what string, call func(args []api.Rat) api.Rat, args ...api.Rat) {
	t.Helper()
	copies := make([]api.Rat, len(args))
	for i, x := range args {
		copies[i] = clone(x)
	}
	result := call(args)
	before := clone(result)
	for i := range result.Num {
		result.Num[i]++
	}
	if !slices.Equal(result.Den, before.Den) {
		t.Errorf("%s: the lists of the result share memory", what)
	}
	for i := range result.Den {
		result.Den[i]++
	}
	if !reflect.DeepEqual(args, copies) {
		t.Errorf("%s changes or shares its arguments", what)
	}
}

// word returns a word, often one at which carries and estimates are at their limits.
func word(r *rand.Rand) uint32 {
	special := []uint32{0, 1, 1<<31 - 1, 1 << 31, 1<<31 + 1, 1<<32 - 2, 1<<32 - 1}
	if n := r.Intn(2 * len(special)); n < len(special) {
		return special[n]
	}
	return r.Uint32()
}

// someWords returns at most n words.
func someWords(r *rand.Rand, n int) []uint32 {
	list := make([]uint32, r.Intn(n+1))
	for i := range list {
		list[i] = word(r)
	}
	return list
}

// random returns a number, often not canonical, with at most n words.
func random(r *rand.Rand, n int) api.Rat {
	x := api.Rat{Neg: r.Intn(2) == 0, Num: someWords(r, n), Den: someWords(r, n)}
	switch r.Intn(4) {
	case 0: // a grid number
		x.Den = words(new(big.Int).Lsh(big.NewInt(1), uint(r.Intn(32*n))))
	case 1: // a common factor
		factor := natural(someWords(r, n/2+1))
		x.Num = words(new(big.Int).Mul(natural(x.Num), factor))
		x.Den = words(new(big.Int).Mul(natural(x.Den), factor))
	case 2: // words 0 in front
		x.Num = append(x.Num, make([]uint32, r.Intn(3))...)
		x.Den = append(x.Den, make([]uint32, r.Intn(3))...)
	}
	return x
}

// each calls visit with pairs of random numbers of many sizes.
func each(seed int64, visit func(r *rand.Rand, x, y api.Rat)) {
	r := rand.New(rand.NewSource(seed))
	for _, n := range []int{1, 2, 3, 5, 20, 33, 64, 70} {
		for range 120 {
			visit(r, random(r, n), random(r, 1+r.Intn(n)))
		}
	}
}

// eachSmall calls visit with pairs of random canonical numbers none of whose sums and products of four is large.
func eachSmall(seed int64, visit func(x, y, z api.Rat)) {
	r := rand.New(rand.NewSource(seed))
	for range 300 {
		var list [3]api.Rat
		for i := range list {
			list[i], _ = number.Canon(random(r, 1+r.Intn(6)))
		}
		visit(list[0], list[1], list[2])
	}
}
