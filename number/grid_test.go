package number_test

import (
	"math"
	"math/big"
	"math/rand"
	"testing"

	"inequality/api"
	"inequality/number"
)

// grid returns 2^p.
func grid(p int) *big.Int {
	return new(big.Int).Lsh(big.NewInt(1), uint(p))
}

// down returns the greatest number of the grid of precision p that is not greater than x.
func down(x *big.Rat, p int) *big.Rat {
	scaled := new(big.Int).Mul(x.Num(), grid(p))
	scaled.Div(scaled, x.Denom()) // rounds down for a positive divisor
	return new(big.Rat).SetFrac(scaled, grid(p))
}

// up returns the least number of the grid of precision p that is not less than x.
func up(x *big.Rat, p int) *big.Rat {
	r := down(new(big.Rat).Neg(x), p)
	return r.Neg(r)
}

// P1.6: Floor and Ceil.
func TestFloorCeil(t *testing.T) {
	for _, c := range [][3]string{{"0", "0", "0"}, {"7/3", "2", "3"}, {"-7/3", "-3", "-2"}, {"1/2", "0", "1"}, {"-1/2", "-1", "0"}, {"5", "5", "5"}, {"-5", "-5", "-5"}, {"-1/1000000000000", "-1", "0"}, {"9999999999/10000000000", "0", "1"}} {
		x, err := number.Floor(rat(c[0]))
		expect(t, "Floor of "+c[0], x, err, value(rat(c[1])), api.OK)
		x, err = number.Ceil(rat(c[0]))
		expect(t, "Ceil of "+c[0], x, err, value(rat(c[2])), api.OK)
	}
	each(6, func(r *rand.Rand, x, y api.Rat) {
		want := api.OK
		if isLarge(x) {
			want = api.ErrSize
		}
		z, err := number.Floor(x)
		expect(t, "Floor", z, err, down(value(x), 0), want)
		z, err = number.Ceil(x)
		expect(t, "Ceil", z, err, up(value(x), 0), want)
	})
}

// P1.7: Down and Up.
func TestDownUp(t *testing.T) {
	for _, c := range []struct {
		x        string
		p        int
		down, up string
	}{{"1/3", 2, "1/4", "1/2"}, {"-1/3", 2, "-1/2", "-1/4"}, {"5/8", 3, "5/8", "5/8"}, {"5/8", 2, "1/2", "3/4"}, {"7/2", 0, "3", "4"}, {"-7/2", 0, "-4", "-3"}, {"0", 9, "0", "0"}, {"1/100", 3, "0", "1/8"}, {"-1/100", 3, "-1/8", "0"}, {"3", 256, "3", "3"}} {
		x, err := number.Down(rat(c.x), c.p)
		expect(t, "Down of "+c.x, x, err, value(rat(c.down)), api.OK)
		x, err = number.Up(rat(c.x), c.p)
		expect(t, "Up of "+c.x, x, err, value(rat(c.up)), api.OK)
	}
	for _, p := range []int{-1, 257, math.MinInt, math.MaxInt} {
		x, err := number.Down(rat("1/3"), p)
		expect(t, "Down", x, err, nil, api.ErrArg)
		x, err = number.Up(rat("0"), p)
		expect(t, "Up", x, err, nil, api.ErrArg)
	}
	each(7, func(r *rand.Rand, x, y api.Rat) {
		p := []int{0, 1, 31, 32, 33, 64, 128, 255, 256, r.Intn(257)}[r.Intn(10)]
		low, high := down(value(x), p), up(value(x), p)
		lowErr, highErr := fits(low), fits(high)
		if isLarge(x) {
			lowErr, highErr = api.ErrSize, api.ErrSize
		}
		z, err := number.Down(x, p)
		expect(t, "Down", z, err, low, lowErr)
		z, err = number.Up(x, p)
		expect(t, "Up", z, err, high, highErr)
	})
}

// P1.8: Root.
func TestRoot(t *testing.T) {
	for _, c := range []struct {
		x    string
		n    int
		want string
		ok   bool
	}{
		{"8/27", 3, "2/3", true}, {"-8", 3, "-2", true}, {"2", 2, "", false}, {"-4", 2, "", false}, {"4", 2, "2", true}, {"0", 2, "0", true}, {"0", 7, "0", true}, {"1", 8, "1", true}, {"-1", 8, "", false},
		{"4/3", 2, "", false}, {"3/4", 2, "", false}, {"-1/32", 5, "-1/2", true}, {"-1", 7, "-1", true}, {"16", 4, "2", true}, {"64", 6, "2", true}, {"65", 6, "", false}, {"63", 6, "", false}, {"-9/16", 4, "", false}, {"-9/16", 2, "", false},
		{"340282366920938463463374607431768211456", 8, "65536", true}, {"18446744065119617025", 2, "4294967295", true}, {"18446744065119617024", 2, "", false},
	} {
		x, ok, err := number.Root(rat(c.x), c.n)
		if ok != c.ok {
			t.Errorf("Root of %s with the index %d: %v", c.x, c.n, ok)
		}
		want := new(big.Rat)
		if c.ok {
			want = value(rat(c.want))
		}
		expect(t, "Root of "+c.x, x, err, want, api.OK)
	}
	for _, n := range []int{-1, 0, 1, 9, math.MinInt, math.MaxInt} {
		for _, s := range []string{"1", "-1", "0"} {
			x, ok, err := number.Root(rat(s), n)
			expect(t, "Root with a wrong index", x, err, nil, api.ErrArg)
			if ok {
				t.Error("a root with a wrong index")
			}
		}
	}
	r := rand.New(rand.NewSource(8))
	for range 300 {
		n := 2 + r.Intn(7)
		root := value(random(r, 64/n))
		power := big.NewRat(1, 1)
		for range n {
			power.Mul(power, root)
		}
		if n%2 == 0 {
			root.Abs(root)
		}
		x, ok, err := number.Root(canonical(power), n)
		expect(t, "Root", x, err, root, fits(power))
		if ok != (err == api.OK) {
			t.Errorf("Root of a power: %v (%d)", ok, err)
		}
		power.Add(power, big.NewRat(1, 1)) // next to a power there is none, but for -1 and 0
		if new(big.Rat).Abs(root).Cmp(big.NewRat(2, 1)) >= 0 && root.IsInt() && fits(power) == api.OK {
			if _, ok, _ := number.Root(canonical(power), n); ok {
				t.Errorf("%s has a root", power)
			}
		}
	}
}

// P1.9: RootDown and RootUp, and their errors in their order.
func TestRootDownUp(t *testing.T) {
	for _, c := range []struct {
		x        string
		n, p     int
		down, up string
	}{
		{"2", 2, 2, "5/4", "3/2"}, {"-8", 3, 0, "-2", "-2"}, {"-2", 3, 0, "-2", "-1"}, {"-2", 3, 1, "-3/2", "-1"}, {"9/16", 2, 2, "3/4", "3/4"}, {"9/16", 2, 1, "1/2", "1"},
		{"1000000", 6, 0, "10", "10"}, {"999999", 6, 0, "9", "10"}, {"1000001", 6, 0, "10", "11"}, {"0", 8, 5, "0", "0"}, {"1/9", 2, 3, "1/4", "3/8"}, {"4/9", 2, 0, "0", "1"}, {"-1/100", 3, 2, "-1/4", "0"}, {"1/1000", 2, 3, "0", "1/8"},
		{"257/256", 2, 0, "1", "2"}, {"1", 2, 256, "1", "1"}, {"-1", 7, 256, "-1", "-1"}, {"17/4", 2, 1, "2", "5/2"},
	} {
		x, err := number.RootDown(rat(c.x), c.n, c.p)
		expect(t, "RootDown of "+c.x, x, err, value(rat(c.down)), api.OK)
		x, err = number.RootUp(rat(c.x), c.n, c.p)
		expect(t, "RootUp of "+c.x, x, err, value(rat(c.up)), api.OK)
	}
	for _, c := range []struct {
		x    string
		n, p int
		err  api.Errno
	}{
		{"4", 1, 0, api.ErrArg}, {"4", 0, 0, api.ErrArg}, {"4", 9, 0, api.ErrArg}, {"4", -2, 0, api.ErrArg}, {"4", 2, -1, api.ErrArg}, {"4", 2, 257, api.ErrArg},
		{"-4", 2, 257, api.ErrArg}, {"-4", 10, 3, api.ErrArg}, {"-4", 2, -1, api.ErrArg}, {"-4", 2, 3, api.ErrDomain}, {"-1/9", 8, 0, api.ErrDomain},
		{"4", math.MinInt, 3, api.ErrArg}, {"4", 3, math.MinInt, api.ErrArg}, {"4", math.MaxInt, math.MaxInt, api.ErrArg},
	} {
		x, err := number.RootDown(rat(c.x), c.n, c.p)
		expect(t, "RootDown of "+c.x, x, err, nil, c.err)
		x, err = number.RootUp(rat(c.x), c.n, c.p)
		expect(t, "RootUp of "+c.x, x, err, nil, c.err)
	}
	x, err := number.RootDown(api.Rat{Neg: true, Num: []uint32{0}}, 2, 3)
	expect(t, "RootDown of minus 0", x, err, new(big.Rat), api.OK)
}

// P1.9 and P1.17: the roots of numbers of all sizes lie between two neighbours on the grid.
func TestRootsOfAllSizes(t *testing.T) {
	each(9, func(r *rand.Rand, x, y api.Rat) {
		n, p := 2+r.Intn(7), []int{0, 1, 32, 256, r.Intn(257)}[r.Intn(5)]
		if isLarge(x) || n%2 == 0 && value(x).Sign() < 0 {
			return
		}
		a := value(x)
		low, err := number.RootDown(x, n, p)
		high, err2 := number.RootUp(x, n, p)
		if err != api.OK || err2 != api.OK {
			t.Errorf("a root of %v: errors %d, %d", x, err, err2)
			return
		}
		step := new(big.Rat).SetFrac(big.NewInt(1), grid(p))
		if down(value(low), p).Cmp(value(low)) != 0 || down(value(high), p).Cmp(value(high)) != 0 {
			t.Errorf("a root of %v is not on the grid", x)
		}
		if power(value(low), n).Cmp(a) > 0 || power(new(big.Rat).Add(value(low), step), n).Cmp(a) <= 0 {
			t.Errorf("RootDown(%v, %d, %d) is %v", x, n, p, low)
		}
		if power(value(high), n).Cmp(a) < 0 || n%2 == 1 && power(new(big.Rat).Sub(value(high), step), n).Cmp(a) >= 0 {
			t.Errorf("RootUp(%v, %d, %d) is %v", x, n, p, high)
		}
		gap := new(big.Rat).Sub(value(high), value(low))
		if exact := power(value(low), n).Cmp(a) == 0; exact && gap.Sign() != 0 || !exact && gap.Cmp(step) != 0 {
			t.Errorf("the roots of %v differ by %s", x, gap)
		}
	})
}

// power returns x^n for positive n.
func power(x *big.Rat, n int) *big.Rat {
	e := big.NewInt(int64(n))
	return new(big.Rat).SetFrac(new(big.Int).Exp(x.Num(), e, nil), new(big.Int).Exp(x.Denom(), e, nil))
}

// P1.16: Down and Up are equal on the grid, and else differ by 2^-p.
func TestGridGaps(t *testing.T) {
	each(10, func(r *rand.Rand, x, y api.Rat) {
		p := r.Intn(257)
		low, err := number.Down(x, p)
		high, err2 := number.Up(x, p)
		if err != api.OK || err2 != api.OK {
			return
		}
		gap, step := new(big.Rat).Sub(value(high), value(low)), new(big.Rat)
		if new(big.Int).Mod(grid(p), value(x).Denom()).Sign() != 0 {
			step.SetFrac(big.NewInt(1), grid(p))
		}
		if gap.Cmp(step) != 0 {
			t.Errorf("Down and Up of %v with precision %d differ by %s", x, p, gap)
		}
		if value(low).Cmp(value(x)) > 0 || value(high).Cmp(value(x)) < 0 {
			t.Errorf("%v is not between Down and Up", x)
		}
	})
}

// P1.10: Middle.
func TestMiddle(t *testing.T) {
	for _, c := range [][3]string{{"2/3", "-5/6", "-1/12"}, {"1", "2", "3/2"}, {"2", "1", "3/2"}, {"-1", "1", "0"}, {"0", "0", "0"}, {"5/7", "5/7", "5/7"}} {
		x, err := number.Middle(rat(c[0]), rat(c[1]))
		expect(t, "Middle", x, err, value(rat(c[2])), api.OK)
	}
}

// P1.10: Simplest.
func TestSimplest(t *testing.T) {
	for _, c := range [][3]string{
		{"5/7", "3/4", "3/4"}, {"-2", "-3/2", "-2"}, {"-1", "5", "0"}, {"7/5", "10/7", "7/5"}, {"31/10", "16/5", "16/5"}, {"157/50", "63/20", "22/7"}, {"9/4", "17/4", "3"}, {"2/9", "2/9", "2/9"},
		{"-9/4", "-17/8", "-9/4"}, {"-11/5", "-17/8", "-11/5"}, {"-35/16", "-17/8", "-13/6"}, {"0", "1/2", "0"}, {"-1/2", "0", "0"}, {"0", "0", "0"}, {"3", "3", "3"}, {"-3", "-3", "-3"}, {"1/2", "1", "1"}, {"1", "9", "1"}, {"-9", "-1", "-1"},
		{"1/3", "1/2", "1/2"}, {"1/5", "2/5", "1/3"}, {"-2/5", "-1/5", "-1/3"}, {"1/1000001", "1/1000000", "1/1000000"}, {"999999/1000000", "1000000/1000001", "999999/1000000"}, {"1/3", "2/3", "1/2"}, {"2", "5/2", "2"}, {"3/2", "2", "2"}, {"-7/2", "-5/2", "-3"},
	} {
		x, err := number.Simplest(rat(c[0]), rat(c[1]))
		expect(t, "Simplest of "+c[0]+" and "+c[1], x, err, value(rat(c[2])), api.OK)
	}
	for _, c := range [][2]string{{"2", "1"}, {"1/2", "1/3"}, {"0", "-1"}, {"-1/3", "-1/2"}, {"1", "-1"}} {
		x, err := number.Simplest(rat(c[0]), rat(c[1]))
		expect(t, "Simplest of the wrong order", x, err, nil, api.ErrOrder)
	}
}

// P1.10: Simplest finds what a search through all denominators finds.
func TestSimplestBySearch(t *testing.T) {
	r := rand.New(rand.NewSource(11))
	for range 2000 {
		x := big.NewRat(int64(r.Intn(400)-200), int64(1+r.Intn(60)))
		y := new(big.Rat).Add(x, big.NewRat(int64(r.Intn(40)), int64(1+r.Intn(400))))
		got, err := number.Simplest(canonical(x), canonical(y))
		expect(t, "Simplest of "+x.String()+" and "+y.String(), got, err, search(x, y), api.OK)
	}
	each(12, func(r *rand.Rand, x, y api.Rat) {
		if isLarge(x) || isLarge(y) {
			return
		}
		z, err := number.Simplest(x, y)
		if value(x).Cmp(value(y)) > 0 {
			expect(t, "Simplest", z, err, nil, api.ErrOrder)
			z, err = number.Simplest(y, x)
			x, y = y, x
		}
		if err != api.OK || value(z).Cmp(value(x)) < 0 || value(z).Cmp(value(y)) > 0 {
			t.Errorf("Simplest(%v, %v) is %v (%d)", x, y, z, err)
		}
		if d := value(z).Denom(); d.Cmp(value(x).Denom()) > 0 || d.Cmp(value(y).Denom()) > 0 {
			t.Errorf("Simplest(%v, %v) is %v", x, y, z)
		}
		z, err = number.Simplest(x, x)
		expect(t, "Simplest of one number", z, err, value(x), api.OK)
	})
}

// search returns, of the numbers from x to y, the one with the least denominator and the least absolute value.
func search(x, y *big.Rat) *big.Rat {
	for d := int64(1); ; d++ {
		scale := big.NewRat(d, 1)
		low, high := up(new(big.Rat).Mul(x, scale), 0), down(new(big.Rat).Mul(y, scale), 0)
		switch {
		case low.Cmp(high) > 0:
		case low.Sign() > 0:
			return low.Quo(low, scale)
		case high.Sign() < 0:
			return high.Quo(high, scale)
		default:
			return new(big.Rat)
		}
	}
}
