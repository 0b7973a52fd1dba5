package number_test

import (
	"math"
	"math/big"
	"math/rand"
	"testing"

	"inequality/api"
	"inequality/number"
)

// P1.2: Canon and FromInt.
func TestCanon(t *testing.T) {
	for _, c := range []struct {
		x    api.Rat
		want string
	}{
		{api.Rat{}, "0"},
		{api.Rat{Neg: true}, "0"},
		{api.Rat{Neg: true, Num: []uint32{0, 0}, Den: []uint32{7}}, "0"},
		{api.Rat{Num: []uint32{4}, Den: []uint32{6}}, "2/3"},
		{api.Rat{Neg: true, Num: []uint32{4, 0}, Den: []uint32{6, 0, 0}}, "-2/3"},
		{api.Rat{Num: []uint32{6}, Den: []uint32{3}}, "2"},
		{api.Rat{Num: []uint32{5}, Den: []uint32{1, 0}}, "5"},
		{api.Rat{Num: []uint32{5}, Den: []uint32{0, 0}}, "5"},
		{api.Rat{Num: []uint32{5, 1}}, "4294967301"},
		{api.Rat{Num: []uint32{0, 0, 3}, Den: []uint32{0, 6}}, "2147483648"},
		{api.Rat{Num: []uint32{0, 6}, Den: []uint32{0, 0, 4}}, "3/8589934592"},
	} {
		x, err := number.Canon(c.x)
		expect(t, "Canon", x, err, value(rat(c.want)), api.OK)
	}
	each(1, func(r *rand.Rand, x, y api.Rat) {
		want := api.OK
		if isLarge(x) {
			want = api.ErrSize
		}
		c, err := number.Canon(x)
		expect(t, "Canon", c, err, value(x), want)
	})
}

// P1.2: every int has a canonical value.
func TestFromInt(t *testing.T) {
	for _, n := range []int{0, 1, -1, 7, -12, 1<<31 - 1, 1 << 31, 1<<32 - 1, 1 << 32, -1 << 32, 1<<32 + 5, math.MaxInt, math.MinInt, math.MinInt + 1} {
		expect(t, "FromInt", number.FromInt(n), api.OK, new(big.Rat).SetInt64(int64(n)), api.OK)
	}
}

// P1.3: Sign and Compare.
func TestSignCompare(t *testing.T) {
	for _, c := range []struct {
		x, y    string
		sign, c int
	}{
		{"0", "0", 0, 0}, {"1/3", "0", 1, 1}, {"-1/3", "0", -1, -1}, {"0", "1", 0, -1}, {"0", "-1", 0, 1},
		{"1/2", "1/3", 1, 1}, {"1/3", "1/2", 1, -1}, {"-1/2", "-1/3", -1, -1}, {"-1/3", "-1/2", -1, 1}, {"2/4", "1/2", 1, 0},
		{"-5", "3", -1, -1}, {"5", "-7", 1, 1}, {"-7/3", "-7/3", -1, 0}, {"4294967296", "4294967295", 1, 1},
	} {
		if s, err := number.Sign(rat(c.x)); s != c.sign || err != api.OK {
			t.Errorf("Sign(%s) is %d (%d)", c.x, s, err)
		}
		if s, err := number.Compare(rat(c.x), rat(c.y)); s != c.c || err != api.OK {
			t.Errorf("Compare(%s, %s) is %d (%d)", c.x, c.y, s, err)
		}
	}
	if s, err := number.Sign(api.Rat{Neg: true, Num: []uint32{0}}); s != 0 || err != api.OK {
		t.Errorf("Sign of minus 0 is %d (%d)", s, err)
	}
	if s, err := number.Compare(api.Rat{Neg: true, Den: []uint32{3}}, api.Rat{}); s != 0 || err != api.OK {
		t.Errorf("minus 0 is not 0: %d (%d)", s, err)
	}
	each(2, func(r *rand.Rand, x, y api.Rat) {
		sign, c, signErr, cErr := value(x).Sign(), value(x).Cmp(value(y)), api.OK, api.OK
		if isLarge(x) {
			sign, signErr = 0, api.ErrSize
		}
		if isLarge(x) || isLarge(y) {
			c, cErr = 0, api.ErrSize
		}
		if s, err := number.Sign(x); s != sign || err != signErr {
			t.Errorf("Sign(%v) is %d (%d)", x, s, err)
		}
		if s, err := number.Compare(x, y); s != c || err != cErr {
			t.Errorf("Compare(%v, %v) is %d (%d)", x, y, s, err)
		}
		if s, err := number.Compare(x, x); s != 0 || err != signErr {
			t.Errorf("Compare(%v) with itself is %d (%d)", x, s, err)
		}
	})
}

// P1.4 and P1.10: the operations with two numbers, of all sizes, against math/big.
func TestOperations(t *testing.T) {
	two := big.NewRat(2, 1)
	each(3, func(r *rand.Rand, x, y api.Rat) {
		a, b := value(x), value(y)
		for _, c := range []struct {
			name   string
			f      func(x, y api.Rat) (api.Rat, api.Errno)
			result *big.Rat
		}{
			{"Add", number.Add, new(big.Rat).Add(a, b)},
			{"Sub", number.Sub, new(big.Rat).Sub(a, b)},
			{"Mul", number.Mul, new(big.Rat).Mul(a, b)},
			{"Middle", number.Middle, new(big.Rat).Quo(new(big.Rat).Add(a, b), two)},
			{"Div", number.Div, quotient(a, b)},
			{"Neg", func(x, y api.Rat) (api.Rat, api.Errno) { return number.Neg(x) }, new(big.Rat).Neg(a)},
			{"Abs", func(x, y api.Rat) (api.Rat, api.Errno) { return number.Abs(x) }, new(big.Rat).Abs(a)},
		} {
			want := api.ErrSize
			unused := c.name == "Neg" || c.name == "Abs"
			if !isLarge(x) && (unused || !isLarge(y)) {
				want = api.ErrZero
				if c.result != nil {
					want = fits(c.result)
				}
			}
			z, err := c.f(x, y)
			expect(t, c.name, z, err, c.result, want)
		}
	})
}

// quotient returns a / b, or nil if b is 0.
func quotient(a, b *big.Rat) *big.Rat {
	if b.Sign() == 0 {
		return nil
	}
	return new(big.Rat).Quo(a, b)
}

// P1.4: ordinary results, and division by a number that denotes 0.
func TestFourOperations(t *testing.T) {
	for _, c := range []struct{ x, y, sum, difference, product, ratio string }{
		{"2/3", "-5/6", "-1/6", "3/2", "-5/9", "-4/5"},
		{"0", "7/3", "7/3", "-7/3", "0", "0"},
		{"-1/2", "1/2", "0", "-1", "-1/4", "-1"},
		{"-1/2", "-3/2", "-2", "1", "3/4", "1/3"},
		{"4294967295", "1", "4294967296", "4294967294", "4294967295", "4294967295"},
	} {
		x, y := rat(c.x), rat(c.y)
		z, err := number.Add(x, y)
		expect(t, "Add", z, err, value(rat(c.sum)), api.OK)
		z, err = number.Sub(x, y)
		expect(t, "Sub", z, err, value(rat(c.difference)), api.OK)
		z, err = number.Mul(x, y)
		expect(t, "Mul", z, err, value(rat(c.product)), api.OK)
		z, err = number.Div(x, y)
		expect(t, "Div", z, err, value(rat(c.ratio)), api.OK)
	}
	for _, zero := range []api.Rat{{}, {Neg: true}, {Num: []uint32{0, 0}, Den: []uint32{5}}} {
		z, err := number.Div(rat("5/3"), zero)
		expect(t, "Div by 0", z, err, nil, api.ErrZero)
		z, err = number.Div(zero, zero)
		expect(t, "0 by 0", z, err, nil, api.ErrZero)
		z, err = number.Neg(zero)
		expect(t, "Neg of 0", z, err, new(big.Rat), api.OK)
		z, err = number.Abs(zero)
		expect(t, "Abs of 0", z, err, new(big.Rat), api.OK)
	}
}

// P1.5: Pow, and its errors in their order.
func TestPow(t *testing.T) {
	for _, c := range []struct {
		x    string
		n    int
		want string
		err  api.Errno
	}{
		{"0", 0, "1", api.OK}, {"5/3", 0, "1", api.OK}, {"-5/3", 0, "1", api.OK}, {"0", 5, "0", api.OK}, {"0", 32, "0", api.OK},
		{"-5/6", -3, "-216/125", api.OK}, {"-5/6", -2, "36/25", api.OK}, {"-2", 3, "-8", api.OK}, {"-2", 4, "16", api.OK}, {"2/3", 1, "2/3", api.OK},
		{"2", 32, "4294967296", api.OK}, {"-2", -32, "1/4294967296", api.OK}, {"1", -32, "1", api.OK}, {"-1", 31, "-1", api.OK}, {"3", 7, "2187", api.OK},
		{"2", 33, "", api.ErrArg}, {"2", -33, "", api.ErrArg}, {"0", 33, "", api.ErrArg}, {"0", -33, "", api.ErrArg},
		{"1", math.MinInt, "", api.ErrArg}, {"1", math.MaxInt, "", api.ErrArg}, {"0", -1, "", api.ErrZero}, {"0", -32, "", api.ErrZero},
	} {
		x, err := number.Pow(rat(c.x), c.n)
		if c.err != api.OK {
			expect(t, "Pow", x, err, nil, c.err)
			continue
		}
		expect(t, "Pow of "+c.x, x, err, value(rat(c.want)), api.OK)
	}
	x, err := number.Pow(api.Rat{Neg: true, Num: []uint32{0}, Den: []uint32{3}}, -2)
	expect(t, "Pow of minus 0", x, err, nil, api.ErrZero)
	r := rand.New(rand.NewSource(4))
	for range 500 {
		base, n := random(r, 1+r.Intn(8)), r.Intn(65)-32
		if n < 0 && value(base).Sign() == 0 {
			continue
		}
		want := big.NewRat(1, 1)
		for range max(n, -n) {
			want.Mul(want, value(base))
		}
		if n < 0 {
			want.Inv(want)
		}
		x, err := number.Pow(base, n)
		expect(t, "Pow", x, err, want, fits(want))
	}
}

// P1.11: Bits.
func TestBits(t *testing.T) {
	for _, c := range []struct {
		x    api.Rat
		want int
	}{
		{api.Rat{}, 1}, {api.Rat{Neg: true, Den: []uint32{9}}, 1}, {rat("1"), 1}, {rat("-1"), 1}, {rat("2"), 2}, {rat("3/2"), 2}, {rat("-9/16"), 5}, {rat("16/9"), 5},
		{rat("4294967295"), 32}, {rat("4294967296"), 33}, {rat("1/4294967296"), 33}, {api.Rat{Num: []uint32{64}, Den: []uint32{32}}, 2},
		{power2(2048, -1), 2048}, {inverse(power2(2047, 0)), 2048}, {api.Rat{Num: []uint32{7, 0, 0}}, 3},
	} {
		if n, err := number.Bits(c.x); n != c.want || err != api.OK {
			t.Errorf("Bits(%v) is %d (%d), want %d", c.x, n, err, c.want)
		}
	}
	each(5, func(r *rand.Rand, x, y api.Rat) {
		want := max(value(x).Num().BitLen(), value(x).Denom().BitLen())
		if n, err := number.Bits(x); !isLarge(x) && (n != want || err != api.OK) {
			t.Errorf("Bits(%v) is %d (%d), want %d", x, n, err, want)
		}
	})
}

// R4: arguments are neither changed nor kept.
func TestArguments(t *testing.T) {
	odd := api.Rat{Neg: true, Num: []uint32{4, 6, 0}, Den: []uint32{6, 0}}
	long := api.Rat{Num: []uint32{1, 2, 3, 4, 5, 6, 7}, Den: []uint32{9, 9, 9}}
	for name, call := range calls() {
		for _, x := range []api.Rat{odd, long, number.FromInt(5), rat("2/3"), rat("1/8")} {
			for _, y := range []api.Rat{long, odd, number.FromInt(1), {}} {
				fresh(t, name, func(args []api.Rat) api.Rat { return call(args[0], args[1], 1, 200).x }, clone(x), clone(y))
				fresh(t, name, func(args []api.Rat) api.Rat { return call(args[0], args[1], 3, 0).x }, clone(x), clone(y))
			}
		}
	}
}
