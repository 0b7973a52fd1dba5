package interval_test

import (
	"fmt"
	"math/big"
	"math/rand"
	"slices"
	"testing"

	"inequality/api"
	"inequality/interval"
)

// huge stands for infinity where results are formed from ends: what comes from it is above beyond or below 1 / beyond, and what comes from numbers alone is not above it.
var huge, beyond = power2(2400), power2(280)

// ends returns the ends of a set, of which those that are infinite are huge.
func (m model) ends() []*big.Rat {
	lo, hi := m.lo, m.hi
	if lo == nil {
		lo = neg(huge)
	}
	if hi == nil {
		hi = huge
	}
	return []*big.Rat{lo, hi}
}

// spread returns the hull of the numbers, rounded outward. A number that is beyond all bounds is infinite.
func spread(p int, list ...*big.Rat) model {
	m := model{lo: down(slices.MinFunc(list, (*big.Rat).Cmp), p), hi: up(slices.MaxFunc(list, (*big.Rat).Cmp), p)}
	if m.lo.Cmp(neg(beyond)) < 0 {
		m.lo = nil
	}
	if m.hi.Cmp(beyond) > 0 {
		m.hi = nil
	}
	return m
}

// corners returns the hull of op at all pairs of ends, rounded outward. That of an operation which is monotone in both numbers is the hull of all its values.
func corners(a, b model, p int, op func(x, y *big.Rat) *big.Rat) model {
	if a.empty || b.empty {
		return model{empty: true}
	}
	var list []*big.Rat
	for _, x := range a.ends() {
		for _, y := range b.ends() {
			list = append(list, op(x, y))
		}
	}
	return spread(p, list...)
}

// operation is one of the four operations on intervals, with that on numbers.
type operation struct {
	name string
	call func(a, b api.Interval, p int) (api.Interval, api.Errno)
	op   func(x, y *big.Rat) *big.Rat
}

func operations() []operation {
	return []operation{{"Add", interval.Add, add}, {"Sub", interval.Sub, sub}, {"Mul", interval.Mul, mul}, {"Div", interval.Div, quo}}
}

// precision returns a precision, often one of the edges.
func precision(r *rand.Rand) int {
	return [...]int{0, 1, 31, 32, api.MaxPrec, r.Intn(api.MaxPrec + 1)}[r.Intn(6)]
}

// P3.7: Round.
func TestRound(t *testing.T) {
	for _, c := range []struct {
		a    string
		p    int
		want string
	}{
		{"[1/3, 2/3]", 0, "[0, 1]"}, {"[1/3, 2/3]", 2, "[1/4, 3/4]"}, {"[-2/3, -1/3]", 2, "[-3/4, -1/4]"}, {"[1/4, 3/4]", 2, "[1/4, 3/4]"}, {"[1/4, 3/4]", 1, "[0, 1]"}, {"[1/3, inf)", 1, "[0, inf)"}, {"(-inf, 1/3]", 1, "(-inf, 1/2]"}, {"(-inf, inf)", 0, "(-inf, inf)"}, {"empty", 3, "empty"}, {"[2/3, 1/3]", 0, "empty"}, {"[5, 5]", 128, "[5, 5]"}, {"[2^-2047, 2^-2047]", 128, "[0, 2^-128]"}, {"[1/3, 1/3]", 0, "[0, 1]"}, {"[-1/3, 1/3]", 0, "[-1, 1]"},
	} {
		got, err := interval.Round(iv(c.a), c.p)
		expect(t, "Round of "+c.a, got, err, iv(c.want), api.OK)
	}
	pairs(11, 500, 200, func(r *rand.Rand, a, b api.Interval) {
		p := precision(r)
		want := meaning(a)
		if want.lo != nil {
			want.lo = down(want.lo, p)
		}
		if want.hi != nil {
			want.hi = up(want.hi, p)
		}
		got, err := interval.Round(a, p)
		expect(t, fmt.Sprintf("Round(%s, %d)", text(a), p), got, err, want.interval(), api.OK)
	})
}

// P3.8: Neg, Abs.
func TestNegAbs(t *testing.T) {
	for _, c := range [][3]string{
		{"[1, 2]", "[-2, -1]", "[1, 2]"}, {"[-2, -1]", "[1, 2]", "[1, 2]"}, {"[-1, 2]", "[-2, 1]", "[0, 2]"}, {"[-3, 2]", "[-2, 3]", "[0, 3]"}, {"[0, 2]", "[-2, 0]", "[0, 2]"}, {"[-2, 0]", "[0, 2]", "[0, 2]"}, {"[0, 0]", "[0, 0]", "[0, 0]"}, {"[1/3, 1/3]", "[-1/3, -1/3]", "[1/3, 1/3]"}, {"[-1/3, -1/3]", "[1/3, 1/3]", "[1/3, 1/3]"},
		{"[1, inf)", "(-inf, -1]", "[1, inf)"}, {"[-1, inf)", "(-inf, 1]", "[0, inf)"}, {"(-inf, -1]", "[1, inf)", "[1, inf)"}, {"(-inf, 1]", "[-1, inf)", "[0, inf)"}, {"[0, inf)", "(-inf, 0]", "[0, inf)"}, {"(-inf, 0]", "[0, inf)", "[0, inf)"}, {"(-inf, inf)", "(-inf, inf)", "[0, inf)"}, {"empty", "empty", "empty"}, {"[3, -4]", "empty", "empty"}, {"[-3, -4]", "empty", "empty"}, {"[-2^2048-1, 0]", "[0, 2^2048-1]", "[0, 2^2048-1]"},
	} {
		got, err := interval.Neg(iv(c[0]))
		expect(t, "Neg of "+c[0], got, err, iv(c[1]), api.OK)
		got, err = interval.Abs(iv(c[0]))
		expect(t, "Abs of "+c[0], got, err, iv(c[2]), api.OK)
	}
	pairs(12, 400, 40, func(r *rand.Rand, a, b api.Interval) {
		m := meaning(a)
		want, size := model{empty: true}, model{empty: true}
		if !m.empty {
			e := m.ends()
			list := []*big.Rat{new(big.Rat).Abs(e[0]), new(big.Rat).Abs(e[1])}
			if m.has(whole(0)) {
				list = append(list, whole(0))
			}
			size = exact(list...)
			want = exact(neg(e[0]), neg(e[1]))
		}
		got, err := interval.Neg(a)
		expect(t, "Neg of "+text(a), got, err, want.interval(), api.OK)
		got, err = interval.Abs(a)
		expect(t, "Abs of "+text(a), got, err, size.interval(), api.OK)
	})
}

// exact is spread without rounding.
func exact(list ...*big.Rat) model {
	m := spread(0, list...)
	if m.lo != nil {
		m.lo = slices.MinFunc(list, (*big.Rat).Cmp)
	}
	if m.hi != nil {
		m.hi = slices.MaxFunc(list, (*big.Rat).Cmp)
	}
	return m
}

// P3.8: Min, Max.
func TestMinMax(t *testing.T) {
	for _, c := range [][4]string{
		{"[1, 4]", "[2, 3]", "[1, 3]", "[2, 4]"}, {"[1, 2]", "[3, 4]", "[1, 2]", "[3, 4]"}, {"[1, 3]", "[2, 4]", "[1, 3]", "[2, 4]"}, {"[1/3, 1/3]", "[1/3, 1/2]", "[1/3, 1/3]", "[1/3, 1/2]"},
		{"[1, inf)", "[2, 3]", "[1, 3]", "[2, inf)"}, {"(-inf, 1]", "[2, 3]", "(-inf, 1]", "[2, 3]"}, {"(-inf, inf)", "[2, 3]", "(-inf, 3]", "[2, inf)"}, {"[1, inf)", "(-inf, 0]", "(-inf, 0]", "[1, inf)"}, {"[1, inf)", "(-inf, 5]", "(-inf, 5]", "[1, inf)"}, {"[1, inf)", "[2, inf)", "[1, inf)", "[2, inf)"}, {"(-inf, 1]", "(-inf, 2]", "(-inf, 1]", "(-inf, 2]"}, {"(-inf, inf)", "(-inf, inf)", "(-inf, inf)", "(-inf, inf)"},
		{"empty", "[2, 3]", "empty", "empty"}, {"empty", "[-7, -5]", "empty", "empty"}, {"empty", "(-inf, inf)", "empty", "empty"}, {"empty", "[9, 7]", "empty", "empty"},
	} {
		for _, order := range [][2]string{{c[0], c[1]}, {c[1], c[0]}} {
			got, err := interval.Min(iv(order[0]), iv(order[1]))
			expect(t, "Min of "+order[0]+" and "+order[1], got, err, iv(c[2]), api.OK)
			got, err = interval.Max(iv(order[0]), iv(order[1]))
			expect(t, "Max of "+order[0]+" and "+order[1], got, err, iv(c[3]), api.OK)
		}
	}
	pairs(13, 400, 8, func(r *rand.Rand, a, b api.Interval) {
		if meaning(a).empty || meaning(b).empty {
			return
		}
		x, y := meaning(a).ends(), meaning(b).ends()
		got, err := interval.Min(a, b)
		expect(t, "Min of "+text(a)+" and "+text(b), got, err, exact(lesser(x[0], y[0]), lesser(x[1], y[1])).interval(), api.OK)
		got, err = interval.Max(a, b)
		expect(t, "Max of "+text(a)+" and "+text(b), got, err, exact(greater(x[0], y[0]), greater(x[1], y[1])).interval(), api.OK)
	})
}

// P3.9: Add, Sub, Mul, Div.
func TestOperations(t *testing.T) {
	for _, c := range []struct {
		name string
		a, b string
		p    int
		want string
	}{
		{"Add", "[1/3, 1/2]", "[1/3, 1/2]", 2, "[1/2, 1]"}, {"Add", "[1, inf)", "[1/3, 2]", 1, "[1, inf)"}, {"Add", "(-inf, 1]", "[1/3, 2]", 1, "(-inf, 3]"}, {"Add", "[1, inf)", "(-inf, 1]", 1, "(-inf, inf)"}, {"Add", "[1, inf)", "[1, inf)", 0, "[2, inf)"}, {"Add", "(-inf, inf)", "[3, 3]", 0, "(-inf, inf)"},
		{"Sub", "[0, 1]", "[0, 1]", 4, "[-1, 1]"}, {"Sub", "[1/3, 1/3]", "[1/3, 1/3]", 4, "[0, 0]"}, {"Sub", "[1, inf)", "[1, inf)", 4, "(-inf, inf)"}, {"Sub", "[1, inf)", "(-inf, 1/3]", 0, "[0, inf)"}, {"Sub", "[1, 2]", "[1/3, inf)", 1, "(-inf, 2]"}, {"Sub", "[1, 2]", "(-inf, 1/3]", 1, "[1/2, inf)"},
		{"Mul", "[-1, 2]", "[3, 4]", 5, "[-4, 8]"}, {"Mul", "[0, 0]", "(-inf, inf)", 3, "[0, 0]"}, {"Mul", "[-1, 2]", "[-3, 4]", 0, "[-6, 8]"}, {"Mul", "[-3, 2]", "[-4, 5]", 0, "[-15, 12]"}, {"Mul", "[-2, 3]", "[-5, 4]", 0, "[-15, 12]"}, {"Mul", "[-3, -2]", "[-5, -4]", 0, "[8, 15]"}, {"Mul", "[-3, -2]", "[4, 5]", 0, "[-15, -8]"}, {"Mul", "[-3, -2]", "[-4, 5]", 0, "[-15, 12]"}, {"Mul", "[-1, 0]", "[0, 1]", 0, "[-1, 0]"}, {"Mul", "[1/3, 1/3]", "[1/3, 1/3]", 3, "[0, 1/8]"},
		{"Mul", "[0, inf)", "[0, 0]", 3, "[0, 0]"}, {"Mul", "(-inf, 0]", "[0, 0]", 3, "[0, 0]"}, {"Mul", "[0, inf)", "[0, inf)", 3, "[0, inf)"}, {"Mul", "[0, inf)", "(-inf, 0]", 3, "(-inf, 0]"}, {"Mul", "[1, inf)", "[0, 1]", 3, "[0, inf)"}, {"Mul", "[1, inf)", "[-1, 0]", 3, "(-inf, 0]"}, {"Mul", "[1, inf)", "[-1, 1]", 3, "(-inf, inf)"}, {"Mul", "[1, inf)", "[2, 3]", 3, "[2, inf)"}, {"Mul", "[1, inf)", "[-3, -2]", 3, "(-inf, -2]"}, {"Mul", "[1, inf)", "(-inf, -2]", 3, "(-inf, -2]"}, {"Mul", "(-inf, -1]", "(-inf, -2]", 3, "[2, inf)"}, {"Mul", "(-inf, 1]", "(-inf, 2]", 3, "(-inf, inf)"}, {"Mul", "[-1, inf)", "[2, 3]", 3, "[-3, inf)"}, {"Mul", "[-1, inf)", "[0, 3]", 3, "[-3, inf)"}, {"Mul", "(-inf, inf)", "(-inf, inf)", 3, "(-inf, inf)"}, {"Mul", "(-inf, inf)", "[2, 2]", 3, "(-inf, inf)"},
		{"Div", "[1, 1]", "[3, 4]", 2, "[1/4, 1/2]"}, {"Div", "[1, 1]", "[2, inf)", 4, "[0, 1/2]"}, {"Div", "[1, 1]", "(-inf, -2]", 4, "[-1/2, 0]"}, {"Div", "[-1, 1]", "[2, inf)", 4, "[-1/2, 1/2]"}, {"Div", "[1, inf)", "[2, inf)", 4, "[0, inf)"}, {"Div", "[-1, inf)", "[2, inf)", 4, "[-1/2, inf)"}, {"Div", "[1, inf)", "[2, 3]", 2, "[1/4, inf)"}, {"Div", "[1, inf)", "(-inf, -2]", 2, "(-inf, 0]"}, {"Div", "(-inf, inf)", "[2, 3]", 2, "(-inf, inf)"}, {"Div", "(-inf, inf)", "[2, inf)", 2, "(-inf, inf)"}, {"Div", "[0, 0]", "[2, inf)", 2, "[0, 0]"}, {"Div", "[0, 0]", "[-3, -2]", 2, "[0, 0]"}, {"Div", "[1, 2]", "[-3, -1/2]", 2, "[-4, -1/4]"}, {"Div", "[-2, -1]", "[-3, -1/2]", 2, "[1/4, 4]"}, {"Div", "[-1, -1]", "[2, inf)", 0, "[-1, 0]"}, {"Div", "[1, 1]", "[2^-2047, 2^-2047]", 0, "[2^2047, 2^2047]"},
	} {
		for _, o := range operations() {
			if o.name == c.name {
				got, err := o.call(iv(c.a), iv(c.b), c.p)
				expect(t, fmt.Sprintf("%s(%s, %s, %d)", c.name, c.a, c.b, c.p), got, err, iv(c.want), api.OK)
			}
		}
	}
}

// P3.9: Div by an interval with 0 in it.
func TestDivByZero(t *testing.T) {
	for _, b := range []string{"[0, 0]", "[0, 1]", "[-1, 0]", "[-1, 1]", "[0, inf)", "(-inf, 0]", "(-inf, inf)", "(-inf, 3]", "[-3, inf)", "[-2^-2047, 2^-2047]"} {
		for _, a := range []string{"[1, 2]", "[0, 0]", "(-inf, inf)"} {
			got, err := interval.Div(iv(a), iv(b), 4)
			expect(t, "Div of "+a+" by "+b, got, err, api.Interval{}, api.ErrZero)
		}
		got, err := interval.Div(iv("[2, 1]"), iv(b), 4)
		expect(t, "Div of an empty interval by "+b, got, err, iv("empty"), api.OK)
	}
	for _, b := range []string{"[1, -1]", "[0, -1]", "[1, 0]"} {
		got, err := interval.Div(iv("[1, 2]"), iv(b), 4)
		expect(t, "Div by an empty interval", got, err, iv("empty"), api.OK)
	}
}

// P3.9: the four operations on intervals of all kinds.
func TestManyOperations(t *testing.T) {
	for _, n := range []int{3, 12, 60} {
		pairs(int64(14+n), 900, n, func(r *rand.Rand, a, b api.Interval) {
			p := precision(r)
			for _, o := range operations() {
				want, wantErr := model{}, api.OK
				if x, y := meaning(a), meaning(b); o.name == "Div" && !x.empty && y.has(whole(0)) {
					wantErr = api.ErrZero
				} else {
					want = corners(x, y, p, o.op)
				}
				got, err := o.call(a, b, p)
				expect(t, fmt.Sprintf("%s(%s, %s, %d)", o.name, text(a), text(b), p), got, err, want.interval(), wantErr)
			}
		})
	}
}

// power returns x to the power n.
func power(x *big.Rat, n int) *big.Rat {
	if n < 0 {
		return new(big.Rat).Inv(power(x, -n))
	}
	e := big.NewInt(int64(n))
	return new(big.Rat).SetFrac(new(big.Int).Exp(x.Num(), e, nil), new(big.Int).Exp(x.Denom(), e, nil))
}

// P3.10: Pow.
func TestPow(t *testing.T) {
	for _, c := range []struct {
		a    string
		n, p int
		want string
		err  api.Errno
	}{
		{"[-2, 1]", 2, 0, "[0, 4]", api.OK}, {"[-2, 1]", 3, 0, "[-8, 1]", api.OK}, {"[2, inf)", -1, 3, "[0, 1/2]", api.OK}, {"[-2, 1]", 0, 0, "[1, 1]", api.OK}, {"[0, 0]", 0, 0, "[1, 1]", api.OK}, {"(-inf, inf)", 0, 0, "[1, 1]", api.OK}, {"[-2, 1]", 1, 0, "[-2, 1]", api.OK},
		{"[-1, 2]", 2, 0, "[0, 4]", api.OK}, {"[-3, -2]", 2, 0, "[4, 9]", api.OK}, {"[2, 3]", 2, 0, "[4, 9]", api.OK}, {"[-3, -2]", 3, 0, "[-27, -8]", api.OK}, {"[1/3, 1/2]", 2, 3, "[0, 1/4]", api.OK}, {"[-1/3, 1/2]", 3, 3, "[-1/8, 1/8]", api.OK}, {"[0, 0]", 5, 0, "[0, 0]", api.OK},
		{"(-inf, -2]", 2, 0, "[4, inf)", api.OK}, {"(-inf, -2]", 3, 0, "(-inf, -8]", api.OK}, {"(-inf, 1]", 2, 0, "[0, inf)", api.OK}, {"(-inf, 1]", 3, 0, "(-inf, 1]", api.OK}, {"[-3, inf)", 4, 0, "[0, inf)", api.OK}, {"[2, inf)", 2, 0, "[4, inf)", api.OK}, {"(-inf, inf)", 2, 0, "[0, inf)", api.OK}, {"(-inf, inf)", 31, 0, "(-inf, inf)", api.OK}, {"(-inf, inf)", 32, 0, "[0, inf)", api.OK},
		{"(-inf, -2]", -1, 3, "[-1/2, 0]", api.OK}, {"(-inf, -2]", -2, 3, "[0, 1/4]", api.OK}, {"[2, 4]", -1, 1, "[0, 1/2]", api.OK}, {"[2, 4]", -2, 4, "[1/16, 1/4]", api.OK}, {"[-4, -2]", -1, 2, "[-1/2, -1/4]", api.OK}, {"[-4, -2]", -2, 4, "[1/16, 1/4]", api.OK}, {"[-4, -2]", -3, 6, "[-1/8, -1/64]", api.OK}, {"[1/2, 1/2]", -32, 0, "[2^32, 2^32]", api.OK}, {"[1/2, 1/2]", 32, 31, "[0, 2^-31]", api.OK},
		{"[0, 1]", -1, 3, "", api.ErrZero}, {"[0, 0]", -2, 3, "", api.ErrZero}, {"[-1, 0]", -32, 3, "", api.ErrZero}, {"[-1, 1]", -1, 3, "", api.ErrZero}, {"(-inf, inf)", -1, 3, "", api.ErrZero}, {"[0, inf)", -2, 3, "", api.ErrZero}, {"(-inf, 0]", -2, 3, "", api.ErrZero},
		{"empty", -1, 3, "empty", api.OK}, {"[1, -1]", -1, 3, "empty", api.OK}, {"empty", 0, 3, "empty", api.OK}, {"empty", 2, 3, "empty", api.OK}, {"[-1, -2]", 3, 3, "empty", api.OK},
		{"[2, 3]", 33, 3, "", api.ErrArg}, {"[2, 3]", -33, 3, "", api.ErrArg}, {"[0, 1]", -33, 3, "", api.ErrArg}, {"empty", 33, 3, "", api.ErrArg}, {"[2, 3]", -1 << 63, 3, "", api.ErrArg}, {"[2, 3]", 1<<63 - 1, 3, "", api.ErrArg},
	} {
		got, err := interval.Pow(iv(c.a), c.n, c.p)
		want := api.Interval{}
		if c.err == api.OK {
			want = iv(c.want)
		}
		expect(t, fmt.Sprintf("Pow(%s, %d, %d)", c.a, c.n, c.p), got, err, want, c.err)
	}
	pairs(18, 1500, 7, func(r *rand.Rand, a, b api.Interval) {
		n, p := r.Intn(2*api.MaxPow+1)-api.MaxPow, precision(r)
		got, err := interval.Pow(a, n, p)
		m := meaning(a)
		want, wantErr := model{empty: true}, api.OK
		switch {
		case m.empty:
		case n < 0 && m.has(whole(0)):
			wantErr = api.ErrZero
		default:
			list := []*big.Rat{power(m.ends()[0], n), power(m.ends()[1], n)}
			if m.has(whole(0)) {
				list = append(list, power(whole(0), n))
			}
			want = spread(p, list...)
		}
		expect(t, fmt.Sprintf("Pow(%s, %d, %d)", text(a), n, p), got, err, want.interval(), wantErr)
	})
}

// rootDown returns the greatest number of the grid of precision p that is not greater than the root of x with the index n, found by halving.
func rootDown(x *big.Rat, n, p int) *big.Rat {
	low, high := new(big.Int), new(big.Int).Lsh(big.NewInt(1), 2600)
	if x.Sign() < 0 {
		low.Neg(high)
		high.SetInt64(0)
	}
	scaled := mul(x, power2(n*p))
	for {
		middle := new(big.Int).Add(low, high)
		middle.Rsh(middle, 1)
		if middle.Cmp(low) == 0 {
			return quo(new(big.Rat).SetInt(low), power2(p))
		}
		if power(new(big.Rat).SetInt(middle), n).Cmp(scaled) <= 0 {
			low = middle
		} else {
			high = middle
		}
	}
}

// rootUp returns the least number of the grid of precision p that is not less than the root of x with the index n.
func rootUp(x *big.Rat, n, p int) *big.Rat {
	r := rootDown(x, n, p)
	if power(r, n).Cmp(x) != 0 {
		r = add(r, power2(-p))
	}
	return r
}

// P3.11: Root.
func TestRoot(t *testing.T) {
	for _, c := range []struct {
		a    string
		n, p int
		want string
		err  api.Errno
	}{
		{"[1, 4]", 2, 0, "[1, 2]", api.OK}, {"[2, 3]", 2, 2, "[5/4, 7/4]", api.OK}, {"[0, 2]", 2, 0, "[0, 2]", api.OK}, {"[0, 0]", 8, 4, "[0, 0]", api.OK}, {"[4/9, 4/9]", 2, 1, "[1/2, 1]", api.OK}, {"[9/16, 9/16]", 2, 2, "[3/4, 3/4]", api.OK}, {"[2, inf)", 2, 1, "[1, inf)", api.OK}, {"[0, inf)", 4, 1, "[0, inf)", api.OK},
		{"[-8, 27]", 3, 0, "[-2, 3]", api.OK}, {"[-9, -2]", 3, 1, "[-5/2, -1]", api.OK}, {"(-inf, -2]", 3, 1, "(-inf, -1]", api.OK}, {"(-inf, 9]", 5, 0, "(-inf, 2]", api.OK}, {"[-9, inf)", 7, 0, "[-2, inf)", api.OK}, {"(-inf, inf)", 3, 0, "(-inf, inf)", api.OK}, {"[2^2047, 2^2048-1]", 2, 0, "[", api.OK}, {"[2^2040, 2^2040]", 8, 0, "[2^255, 2^255]", api.OK}, {"[2^-2040, 2^-2040]", 8, 0, "[0, 1]", api.OK},
		{"[-1, 4]", 2, 0, "", api.ErrDomain}, {"[-2^-2047, 4]", 4, 0, "", api.ErrDomain}, {"(-inf, 4]", 2, 0, "", api.ErrDomain}, {"(-inf, inf)", 8, 0, "", api.ErrDomain}, {"[-2, -1]", 6, 0, "", api.ErrDomain},
		{"empty", 2, 0, "empty", api.OK}, {"[-1, -2]", 2, 0, "empty", api.OK}, {"[5, -2]", 3, 0, "empty", api.OK}, {"[-1, -2]", 1, 0, "", api.ErrArg},
		{"[1, 4]", 1, 0, "", api.ErrArg}, {"[1, 4]", 0, 0, "", api.ErrArg}, {"[1, 4]", 9, 0, "", api.ErrArg}, {"[-1, 4]", -2, 0, "", api.ErrArg}, {"[-1, 4]", 10, 0, "", api.ErrArg}, {"[1, 4]", -1 << 63, 0, "", api.ErrArg}, {"[1, 4]", 1<<63 - 1, 0, "", api.ErrArg},
	} {
		want := api.Interval{}
		switch {
		case c.want == "[":
			want = model{lo: rootDown(number("2^2047"), 2, 0), hi: number("2^1024")}.interval()
		case c.err == api.OK:
			want = iv(c.want)
		}
		got, err := interval.Root(iv(c.a), c.n, c.p)
		expect(t, fmt.Sprintf("Root(%s, %d, %d)", c.a, c.n, c.p), got, err, want, c.err)
	}
	pairs(19, 250, 40, func(r *rand.Rand, a, b api.Interval) {
		n, p := 2+r.Intn(api.MaxRoot-1), precision(r)
		m := meaning(a)
		want, wantErr := m, api.OK
		switch {
		case m.empty:
		case n%2 == 0 && (m.lo == nil || m.lo.Sign() < 0):
			wantErr = api.ErrDomain
		default:
			if m.lo != nil {
				want.lo = rootDown(m.lo, n, p)
			}
			if m.hi != nil {
				want.hi = rootUp(m.hi, n, p)
			}
		}
		got, err := interval.Root(a, n, p)
		expect(t, fmt.Sprintf("Root(%s, %d, %d)", text(a), n, p), got, err, want.interval(), wantErr)
	})
}
