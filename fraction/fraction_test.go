package fraction

import (
	"math/big"
	"math/rand"
	"testing"

	"inequality/api"
	"inequality/natural"
)

// wide returns a as a number of math/big.
func wide(a Fraction) *big.Rat {
	r, _ := new(big.Rat).SetString(a.Num().Decimal() + "/" + a.Den().Decimal())
	if a.Sign() < 0 {
		r.Neg(r)
	}
	return r
}

// is checks that got is want in lowest terms.
func is(t *testing.T, what string, got Fraction, want *big.Rat) {
	t.Helper()
	if wide(got).Cmp(want) != 0 || got.Den().Decimal() != want.Denom().String() || got.neg && got.num.IsZero() {
		t.Errorf("%s is %v, want %s", what, got, want.RatString())
	}
}

// sample returns a number with parts of at most n words.
func sample(r *rand.Rand, n int) Fraction {
	list := make([]uint32, 2*n)
	for i := range list {
		list[i] = r.Uint32() >> r.Intn(33)
	}
	den := natural.Of(list[:r.Intn(n+1)])
	if den.IsZero() || r.Intn(3) == 0 {
		den = natural.FromUint(1).Shl(r.Intn(32 * n))
	}
	return New(r.Intn(2) == 0, natural.Of(list[n:]), den)
}

// The operations have no limit of size.
func TestOperations(t *testing.T) {
	r := rand.New(rand.NewSource(1))
	for i := range 600 {
		n := 1 + i/12
		a, b := sample(r, n), sample(r, n)
		x, y := wide(a), wide(b)
		is(t, "Add", a.Add(b), new(big.Rat).Add(x, y))
		is(t, "Sub", a.Sub(b), new(big.Rat).Sub(x, y))
		is(t, "Sub of itself", a.Sub(a), new(big.Rat))
		part := New(b.neg, b.num, b.den.Mul(a.den)) // so that the denominators have a divisor in common
		is(t, "Add of a part", a.Add(part), new(big.Rat).Add(x, wide(part)))
		is(t, "Sub of a sum", a.Add(part).Sub(a), wide(part))
		is(t, "Mul", a.Mul(b), new(big.Rat).Mul(x, y))
		is(t, "Neg", a.Neg(), new(big.Rat).Neg(x))
		is(t, "Abs", a.Abs(), new(big.Rat).Abs(x))
		if a.Compare(b) != x.Cmp(y) || a.Sign() != x.Sign() || a.Bits() != max(x.Num().BitLen(), x.Denom().BitLen()) {
			t.Errorf("%v: compared with %v %d, sign %d, bits %d", a, b, a.Compare(b), a.Sign(), a.Bits())
		}
		q, err := a.Div(b)
		if y.Sign() == 0 {
			if err != api.ErrZero {
				t.Errorf("division by 0: %d", err)
			}
			continue
		}
		is(t, "Div", q, new(big.Rat).Quo(x, y))
		cube, _ := b.Pow(-3)
		is(t, "Pow", cube, new(big.Rat).Inv(new(big.Rat).Mul(y, new(big.Rat).Mul(y, y))))
		root, ok := b.Mul(b).Root(2)
		if !ok {
			t.Errorf("the square of %v has no root", b)
		}
		is(t, "Root", root, new(big.Rat).Abs(y))
	}
}

// Rounding has no limit of size either.
func TestRounding(t *testing.T) {
	r := rand.New(rand.NewSource(2))
	for i := range 400 {
		a, p := sample(r, 1+i/8), r.Intn(400)
		scale := new(big.Int).Lsh(big.NewInt(1), uint(p))
		x := wide(a)
		floor := new(big.Int).Mul(x.Num(), scale)
		floor.Div(floor, x.Denom())
		want := new(big.Rat).SetFrac(floor, scale)
		is(t, "Down", a.Down(p), want)
		if !x.IsInt() && new(big.Int).Mod(scale, x.Denom()).Sign() != 0 {
			want = want.SetFrac(floor.Add(floor, big.NewInt(1)), scale)
		}
		is(t, "Up", a.Up(p), want)
		is(t, "RootDown of a cube", a.Mul(a).Mul(a).RootDown(3, p), wide(a.Down(p)))
		is(t, "RootUp of a cube", a.Mul(a).Mul(a).RootUp(3, p), wide(a.Up(p)))
	}
}

// Large numbers are told from others where numbers come in and go out.
func TestLarge(t *testing.T) {
	most := New(true, natural.FromUint(2).Pow(2048).Sub(natural.FromUint(1)), natural.FromUint(1))
	x, err := most.Rat()
	if err != api.OK || len(x.Num) != api.MaxWords || x.Den != nil || !x.Neg {
		t.Errorf("the least number is %v (%d)", x, err)
	}
	back, err := Of(x)
	is(t, "Of", back, wide(most))
	if err != api.OK {
		t.Errorf("Of the least number: error %d", err)
	}
	if x, err = most.Sub(FromInt(1)).Rat(); err != api.ErrSize || x.Num != nil {
		t.Errorf("a large number is %v (%d)", x, err)
	}
	if _, err = Of(api.Rat{Num: append(make([]uint32, api.MaxWords), 1)}); err != api.ErrSize {
		t.Errorf("Of a large number: error %d", err)
	}
	if _, err = Of(api.Rat{Den: append(make([]uint32, 4*api.MaxWords), 1)}); err != api.ErrSize {
		t.Errorf("Of 0 with a long denominator: error %d", err)
	}
}
