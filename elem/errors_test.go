package elem_test

import (
	"fmt"
	"math/big"
	"reflect"
	"slices"
	"testing"

	"inequality/api"
	"inequality/elem"
)

// largeNumbers are large for different reasons; two of them denote 0 and 1.
func largeNumbers() map[string]api.Rat {
	zeros := make([]uint32, 4*api.MaxWords)
	return map[string]api.Rat{
		"2^2048":                 canonical(power2(2048)),
		"-2^2048":                canonical(neg(power2(2048))),
		"2^-2048":                canonical(power2(-2048)),
		"0 over 257 words":       {Den: append(slices.Clone(zeros), 1)},
		"1 as 257 words by them": {Num: append(slices.Clone(zeros), 7), Den: append(slices.Clone(zeros), 7)},
	}
}

// P2.1: a large number comes before all other errors.
func TestLarge(t *testing.T) {
	zero := pair{}
	for what, x := range largeNumbers() {
		for fn, call := range brackets() {
			for _, p := range []int{0, api.MaxPrec, -1, api.MaxPrec + 1} {
				if call != nil {
					b, err := call(x, p)
					expect(t, fmt.Sprintf("%s of %s", elem.Name(fn), what), b, err, zero, api.ErrSize)
				}
				b, err := elem.Apply(fn, x, p)
				expect(t, fmt.Sprintf("Apply(%d) of %s", fn, what), b, err, zero, api.ErrSize)
			}
			if ok, err := elem.Defined(fn, x); ok || err != api.ErrSize {
				t.Errorf("Defined(%d, %s) is %v, %d", fn, what, ok, err)
			}
			if v, ok, err := elem.Exact(fn, x); ok || err != api.ErrSize || !isCanonical(v, new(big.Rat)) {
				t.Errorf("Exact(%d, %s) is %v, %v, %d", fn, what, v, ok, err)
			}
		}
		for _, r := range []int{-1, 0, 4} {
			for _, other := range []string{"1", "5000000000"} {
				if ok, err := elem.Turns(x, rat(other), r); ok || err != api.ErrSize {
					t.Errorf("Turns(%s, %s, %d) is %v, %d", what, other, r, ok, err)
				}
				if ok, err := elem.Turns(rat(other), x, r); ok || err != api.ErrSize {
					t.Errorf("Turns(%s, %s, %d) is %v, %d", other, what, r, ok, err)
				}
			}
		}
	}
}

// P2.1: for each function, the domain comes after the arguments, and the range after the domain.
func TestOrder(t *testing.T) {
	wide, long := power2(1024), power2(-1024) // they have more bits than a function takes, but are not large
	beyond := add(whole(api.MaxExp), power2(-1000))
	far := add(whole(api.MaxTurn), power2(-900))
	const log, domain, ranged, ok = api.FnLog, api.ErrDomain, api.ErrRange, api.OK
	for _, c := range []struct {
		fn  int
		x   *big.Rat
		err api.Errno
	}{
		{log, whole(0), domain}, {log, whole(-1), domain}, {log, neg(wide), domain}, {log, wide, ranged}, {log, long, ranged}, {log, power2(1023), ok}, {log, sub(wide, whole(1)), ok}, {log, power2(-1023), ok},
		{api.FnAsin, whole(2), domain}, {api.FnAsin, whole(-2), domain}, {api.FnAsin, wide, domain}, {api.FnAsin, add(whole(1), power2(-1500)), domain}, {api.FnAsin, long, ranged}, {api.FnAsin, neg(long), ranged}, {api.FnAsin, power2(-1023), ok},
		{api.FnAcos, add(whole(1), power2(-900)), domain}, {api.FnAcos, add(whole(-1), neg(power2(-900))), domain}, {api.FnAcos, wide, domain}, {api.FnAcos, long, ranged}, {api.FnAcos, sub(whole(1), power2(-1024)), ranged}, {api.FnAcos, whole(-1), ok},
		{api.FnExp, beyond, ranged}, {api.FnExp, neg(beyond), ranged}, {api.FnExp, wide, ranged}, {api.FnExp, long, ranged}, {api.FnExp, whole(-64), ok}, {api.FnExp, power2(-1023), ok},
		{api.FnSin, far, ranged}, {api.FnCos, far, ranged}, {api.FnTan, far, ranged}, {api.FnSin, neg(far), ranged}, {api.FnCos, neg(far), ranged}, {api.FnTan, neg(far), ranged}, {api.FnSin, long, ranged}, {api.FnCos, long, ranged}, {api.FnTan, long, ranged}, {api.FnSin, wide, ranged},
		{api.FnSin, whole(api.MaxTurn), ok}, {api.FnCos, whole(-api.MaxTurn), ok}, {api.FnTan, whole(api.MaxTurn), ok},
		{api.FnAtan, wide, ranged}, {api.FnAtan, long, ranged}, {api.FnAtan, sub(wide, whole(1)), ok}, {api.FnAtan, neg(power2(-1023)), ok},
	} {
		for _, p := range []int{0, 20, api.MaxPrec, -1, api.MaxPrec + 1, 1<<63 - 1, -1 << 63} {
			want := c.err
			if p < 0 || p > api.MaxPrec {
				want = api.ErrArg
			}
			b, err := brackets()[c.fn](canonical(c.x), p)
			if err != want || err != ok && !reflect.DeepEqual(b, api.Bracket{}) {
				t.Errorf("%s(%s, %d) is %v, error %d, want %d", elem.Name(c.fn), c.x.RatString(), p, b, err, want)
			}
			again, err := elem.Apply(c.fn, canonical(c.x), p)
			if err != want || !reflect.DeepEqual(again, b) {
				t.Errorf("Apply(%d, %s, %d) is %v, error %d, want %d", c.fn, c.x.RatString(), p, again, err, want)
			}
		}
	}
}

// P2.1: Apply takes the functions from 1 to 8.
func TestFunctionNumbers(t *testing.T) {
	for _, fn := range []int{-1 << 63, -1, 0, 9, 10, 1<<63 - 1} {
		for _, x := range []string{"0", "1", "1/2", "-3"} {
			b, err := elem.Apply(fn, rat(x), 4)
			expect(t, fmt.Sprintf("Apply(%d, %s)", fn, x), b, err, pair{}, api.ErrArg)
			if ok, err := elem.Defined(fn, rat(x)); ok || err != api.ErrArg {
				t.Errorf("Defined(%d, %s) is %v, %d", fn, x, ok, err)
			}
			if v, ok, err := elem.Exact(fn, rat(x)); ok || err != api.ErrArg || !isCanonical(v, new(big.Rat)) {
				t.Errorf("Exact(%d, %s) is %v, %v, %d", fn, x, v, ok, err)
			}
		}
	}
}

// R4: a bracket is new memory, and the argument is neither changed nor kept.
func TestMemory(t *testing.T) {
	for fn, list := range map[int][]string{api.FnExp: {"0", "3/7"}, api.FnLog: {"1", "3/7"}, api.FnSin: {"0", "3/7"}, api.FnCos: {"0", "3/7"}, api.FnTan: {"0", "3/7"}, api.FnAsin: {"0", "3/7"}, api.FnAcos: {"1", "3/7"}, api.FnAtan: {"0", "3/7"}} {
		for _, text := range list {
			x, same := rat(text), rat(text)
			first, _ := elem.Apply(fn, x, 40)
			again, _ := elem.Apply(fn, x, 40)
			before := fmt.Sprint(again.Lo.Den, again.Hi)
			for _, list := range [][]uint32{first.Lo.Num, first.Lo.Den, first.Hi.Num, first.Hi.Den, again.Lo.Num} {
				for i := range list {
					list[i]++
				}
			}
			if !reflect.DeepEqual(x, same) || fmt.Sprint(again.Lo.Den, again.Hi) != before {
				t.Errorf("%s(%s) shares memory", elem.Name(fn), text)
			}
		}
	}
	one, _, _ := elem.Exact(api.FnExp, rat("0"))
	one.Num[0] = 5
	if again, _, _ := elem.Exact(api.FnExp, rat("0")); !isCanonical(again, whole(1)) {
		t.Errorf("Exact gives away its memory: exp 0 is %v", again)
	}
}
