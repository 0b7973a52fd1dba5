package elem_test

import (
	"math/big"
	"math/rand"
	"testing"

	"inequality/api"
	"inequality/elem"
)

// quarter is what a multiple of pi/2 lies between, for P2.11.
func quarter(m int) pair {
	pi := paper(api.MaxPrec + 64).pi()
	a, b := mul(pi.lo, big.NewRat(int64(m), 2)), mul(pi.hi, big.NewRat(int64(m), 2))
	if m < 0 {
		return pair{b, a}
	}
	return pair{a, b}
}

// meets tells by the definition whether one of the multiples from first to last that have the remainder r meets the numbers from lo to hi.
func meets(lo, hi *big.Rat, r, first, last int) bool {
	for m := first; m <= last; m++ {
		q := quarter(m)
		if (m%4+4)%4 == r && lo.Cmp(hi) <= 0 && lo.Cmp(q.hi) <= 0 && q.lo.Cmp(hi) <= 0 {
			return true
		}
	}
	return false
}

// turns checks Turns for every remainder, where all multiples that could count are from first to last.
func turns(t *testing.T, lo, hi *big.Rat, first, last int) {
	t.Helper()
	for r := range 4 {
		want := meets(lo, hi, r, first, last)
		if got, err := elem.Turns(canonical(lo), canonical(hi), r); got != want || err != api.OK {
			t.Errorf("Turns(%s, %s, %d) is %v, error %d, want %v", lo.RatString(), hi.RatString(), r, got, err, want)
		}
	}
}

// P2.11: the numbers from lo to hi and the multiples meet as the definition says, also where they only touch.
func TestTurns(t *testing.T) {
	tiny := power2(-700)
	for m := -9; m <= 9; m++ {
		q := quarter(m)
		mid := quo(add(q.lo, q.hi), whole(2))
		for _, x := range []*big.Rat{q.lo, q.hi, mid} {
			for _, y := range []*big.Rat{x, add(x, tiny), sub(x, tiny)} {
				for _, width := range []string{"0", "1/1000", "3/2", "8/5", "3", "5", "61/10", "13/2"} {
					turns(t, y, add(y, number(width)), m-1, m+6)
					turns(t, sub(y, number(width)), y, m-6, m+1)
				}
				turns(t, y, sub(y, power2(-1000)), m-1, m+1)
			}
		}
	}
	r := rand.New(rand.NewSource(2))
	for range 300 {
		lo := big.NewRat(r.Int63n(4000)-2000, r.Int63n(400)+100)
		turns(t, lo, add(lo, big.NewRat(r.Int63n(900), 100)), -30, 50)
	}
}

// P2.11: the ends of the range.
func TestFarTurns(t *testing.T) {
	far := whole(api.MaxTurn)
	for r := range 4 {
		for _, c := range []struct {
			lo, hi *big.Rat
			want   bool
		}{
			{neg(far), far, true},
			{far, neg(far), false},
			{sub(far, whole(7)), far, true},
			{neg(far), sub(whole(7), far), true},
			{whole(0), far, true},
		} {
			if got, err := elem.Turns(canonical(c.lo), canonical(c.hi), r); got != c.want || err != api.OK {
				t.Errorf("Turns(%s, %s, %d) is %v, error %d", c.lo.RatString(), c.hi.RatString(), r, got, err)
			}
		}
	}
	// The greatest multiples in the range: 2^32 / (pi/2) is 2734261102.3
	top := 2734261102
	turns(t, quarter(top).hi, far, top-1, top+1)
	turns(t, add(quarter(top).hi, power2(-900)), far, top-1, top+1)
	turns(t, neg(far), quarter(-top).lo, -top-1, 1-top)
	turns(t, neg(far), sub(quarter(-top).lo, power2(-900)), -top-1, 1-top)
	turns(t, quarter(top-5).lo, quarter(top-2).lo, top-6, top)
}

// P2.11, P2.1: the errors in their order, before the order of the ends.
func TestTurnErrors(t *testing.T) {
	far, wide := add(whole(api.MaxTurn), power2(-900)), power2(-1024)
	for _, c := range []struct {
		lo, hi *big.Rat
		r      int
		err    api.Errno
	}{
		{whole(0), whole(1), -1, api.ErrArg},
		{whole(0), whole(1), 4, api.ErrArg},
		{whole(1), whole(0), 4, api.ErrArg},
		{far, whole(0), 4, api.ErrArg},
		{whole(0), whole(1), 1<<63 - 1, api.ErrArg},
		{whole(0), whole(1), -1 << 63, api.ErrArg},
		{whole(0), far, 0, api.ErrRange},
		{far, whole(0), 0, api.ErrRange},
		{neg(far), whole(0), 1, api.ErrRange},
		{whole(0), neg(far), 1, api.ErrRange},
		{whole(0), wide, 2, api.ErrRange},
		{wide, whole(1), 2, api.ErrRange},
		{neg(wide), whole(1), 3, api.ErrRange},
		{whole(1), wide, 3, api.ErrRange},
		{whole(1), power2(-1023), 3, api.OK},
		{whole(api.MaxTurn), whole(-api.MaxTurn), 3, api.OK},
	} {
		if got, err := elem.Turns(canonical(c.lo), canonical(c.hi), c.r); got || err != c.err {
			t.Errorf("Turns(%s, %s, %d) is %v, error %d, want %d", c.lo.RatString(), c.hi.RatString(), c.r, got, err, c.err)
		}
	}
}

// P2.11: the examples of the chapter.
func TestTurnExamples(t *testing.T) {
	for _, c := range []struct {
		lo, hi string
		r      int
		want   bool
	}{{"1", "2", 1, true}, {"1", "2", 0, false}, {"0", "1", 0, true}} {
		if got, err := elem.Turns(rat(c.lo), rat(c.hi), c.r); got != c.want || err != api.OK {
			t.Errorf("Turns(%s, %s, %d) is %v, error %d", c.lo, c.hi, c.r, got, err)
		}
	}
}
