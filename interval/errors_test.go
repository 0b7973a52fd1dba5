package interval_test

import (
	"fmt"
	"math/rand"
	"reflect"
	"slices"
	"testing"

	"inequality/api"
	"inequality/interval"
)

// outcome is the result of a call, with results that are no intervals made one.
type outcome struct {
	a   api.Interval
	err api.Errno
}

// made makes an outcome of a result that is an interval.
func made(a api.Interval, err api.Errno) outcome { return outcome{a, err} }

// told makes an outcome of a result that is a bool.
func told(ok bool, err api.Errno) outcome { return outcome{api.Interval{LoInf: ok}, err} }

// caller is a call of a function with the arguments that it takes: intervals, a number, an integer and a precision.
type caller struct {
	name string
	two  bool // it takes two intervals
	call func(a, b api.Interval, n, p int) outcome
}

// callers returns every function that takes an interval.
func callers() []caller {
	one := func(name string, f func(a api.Interval) (api.Interval, api.Errno)) caller {
		return caller{name, false, func(a, b api.Interval, n, p int) outcome { return made(f(a)) }}
	}
	two := func(name string, f func(a, b api.Interval) (api.Interval, api.Errno)) caller {
		return caller{name, true, func(a, b api.Interval, n, p int) outcome { return made(f(a, b)) }}
	}
	list := []caller{
		one("Canon", interval.Canon), one("Neg", interval.Neg), one("Abs", interval.Abs), two("Meet", interval.Meet), two("Hull", interval.Hull), two("Min", interval.Min), two("Max", interval.Max),
		{"IsEmpty", false, func(a, b api.Interval, n, p int) outcome { return told(interval.IsEmpty(a)) }},
		{"Bounded", false, func(a, b api.Interval, n, p int) outcome { return told(interval.Bounded(a)) }},
		{"Inside", true, func(a, b api.Interval, n, p int) outcome { return told(interval.Inside(a, b)) }},
		{"Has", false, func(a, b api.Interval, n, p int) outcome { return told(interval.Has(a, rat("1"))) }},
		{"Middle", false, func(a, b api.Interval, n, p int) outcome {
			x, err := interval.Middle(a)
			return outcome{api.Interval{Lo: x}, err}
		}},
		{"Sign", false, func(a, b api.Interval, n, p int) outcome {
			sign, err := interval.Sign(a)
			return outcome{api.Interval{Lo: canonical(whole(sign))}, err}
		}},
	}
	return append(list, rounders()...)
}

// rounders returns the functions that round.
func rounders() []caller {
	list := []caller{
		{"Round", false, func(a, b api.Interval, n, p int) outcome { return made(interval.Round(a, p)) }},
		{"Pow", false, func(a, b api.Interval, n, p int) outcome { return made(interval.Pow(a, n, p)) }},
		{"Root", false, func(a, b api.Interval, n, p int) outcome { return made(interval.Root(a, n, p)) }},
		{"Call", false, func(a, b api.Interval, n, p int) outcome { return made(interval.Call(n, a, p)) }},
	}
	for _, o := range operations() {
		list = append(list, caller{o.name, true, func(a, b api.Interval, n, p int) outcome { return made(o.call(a, b, p)) }})
	}
	return list
}

// largeNumbers are large for different reasons; some of them denote 0 or 1.
func largeNumbers() map[string]api.Rat {
	zeros := make([]uint32, 4*api.MaxWords)
	return map[string]api.Rat{
		"2^2048":                 rat("2^2048"),
		"-2^2048":                rat("-2^2048"),
		"2^-2048":                rat("2^-2048"),
		"0 over 257 words":       {Den: append(slices.Clone(zeros), 1)},
		"1 as 257 words by them": {Num: append(slices.Clone(zeros), 7), Den: append(slices.Clone(zeros), 7)},
	}
}

// largeIntervals returns intervals with the number x at each place, also where it is not looked at.
func largeIntervals(x api.Rat) []api.Interval {
	one := rat("1")
	return []api.Interval{
		{Lo: x, Hi: one}, {Lo: one, Hi: x}, {Lo: x, Hi: x}, {Lo: x, Hi: one, LoInf: true}, {Lo: one, Hi: x, HiInf: true}, {Lo: x, Hi: one, HiInf: true}, {Lo: one, Hi: x, LoInf: true},
		{Lo: x, LoInf: true, HiInf: true}, {Hi: x, LoInf: true, HiInf: true}, {Lo: x, Hi: rat("-5")}, {Lo: rat("5"), Hi: x},
	}
}

// P3.1: a large number comes before all other errors, in every function and at every place.
func TestLargeArguments(t *testing.T) {
	fine := []api.Interval{iv("[1, 2]"), iv("empty"), iv("[-1, 1]")}
	for what, x := range largeNumbers() {
		for _, a := range largeIntervals(x) {
			for _, c := range callers() {
				for _, n := range []int{2, 0, -100} {
					for _, p := range []int{4, -1, 1000} {
						for _, b := range fine {
							expectOutcome(t, c.name+" of an interval with "+what, c.call(a, b, n, p), outcome{err: api.ErrSize})
							if c.two {
								expectOutcome(t, c.name+" of a second interval with "+what, c.call(b, a, n, p), outcome{err: api.ErrSize})
							}
						}
					}
				}
			}
		}
		for _, a := range fine {
			expectOutcome(t, "Has of "+what, told(interval.Has(a, x)), outcome{err: api.ErrSize})
		}
		expectOutcome(t, "Point of "+what, made(interval.Point(x)), outcome{err: api.ErrSize})
		expectOutcome(t, "Between "+what+" and 1", made(interval.Between(x, rat("1"))), outcome{err: api.ErrSize})
		expectOutcome(t, "Between 1 and "+what, made(interval.Between(rat("1"), x)), outcome{err: api.ErrSize})
	}
}

// expectOutcome checks an outcome.
func expectOutcome(t *testing.T, what string, got, want outcome) {
	t.Helper()
	expect(t, what, got.a, got.err, want.a, want.err)
}

// P3.1: numbers that are long but not large are no error, also where they are not canonical or not looked at.
func TestNotLarge(t *testing.T) {
	common := make([]uint32, 4*api.MaxWords)
	common[4*api.MaxWords-1] = 1 << 30
	for what, x := range map[string]api.Rat{
		"1 as 256 words by them": {Num: common, Den: common},
		"0 over 256 words":       {Den: common},
		"many words 0":           {Num: append([]uint32{5}, make([]uint32, 1000)...), Den: append([]uint32{3}, make([]uint32, 1000)...)},
		"2^2048-1":               rat("2^2048-1"),
		"2^-2047":                rat("2^-2047"),
	} {
		for _, a := range []api.Interval{{Lo: x, Hi: x}, {Lo: x, LoInf: true, HiInf: true}, {Hi: x, LoInf: true, HiInf: true}, {Lo: x, Hi: rat("1"), LoInf: true}, {Lo: rat("1"), Hi: x, HiInf: true}} {
			for _, c := range callers() {
				if slices.Contains([]string{"Canon", "Neg", "Abs", "Meet", "Hull", "Min", "Max", "IsEmpty", "Bounded", "Has", "Inside", "Sign"}, c.name) {
					if err := c.call(a, a, 0, 0).err; err != api.OK {
						t.Errorf("%s of an interval with %s: error %d", c.name, what, err)
					}
				}
			}
			got, err := interval.Canon(a)
			expect(t, "Canon of an interval with "+what, got, err, meaning(a).interval(), api.OK)
		}
	}
}

// P3.1: integers that are out of range come before what a promise names, and count for empty intervals.
func TestArguments(t *testing.T) {
	for _, p := range []int{-1, api.MaxPrec + 1, -1 << 63, 1<<63 - 1} {
		for _, a := range []string{"[1, 2]", "empty", "[-3, -2]", "[-1, 1]", "(-inf, inf)", "[2^1024, 2^1024]"} {
			for _, c := range rounders() {
				for _, n := range []int{-1, 2, 3, 8} {
					what := fmt.Sprintf("%s of %s with %d and the precision %d", c.name, a, n, p)
					expectOutcome(t, what, c.call(iv(a), iv("[0, 0]"), n, p), outcome{err: api.ErrArg})
					expectOutcome(t, what, c.call(iv(a), iv("[5, 4]"), n, p), outcome{err: api.ErrArg})
				}
			}
		}
	}
	for _, p := range []int{0, api.MaxPrec} {
		for _, c := range rounders() {
			if got := c.call(iv("[1/4, 1/2]"), iv("[1/4, 1/2]"), 2, p); got.err != api.OK {
				t.Errorf("%s with the precision %d: error %d", c.name, p, got.err)
			}
		}
	}
}

// P3.1: if an argument is empty, the result is empty.
func TestEmptyArguments(t *testing.T) {
	r := rand.New(rand.NewSource(31))
	for range 30 {
		none := disguise(r, iv("empty"))
		for _, c := range callers() {
			if slices.Contains([]string{"IsEmpty", "Bounded", "Has", "Inside", "Sign", "Middle", "Hull"}, c.name) {
				continue
			}
			for n := 2; n <= api.FnAtan; n++ {
				for _, b := range []string{"[1, 2]", "[0, 0]", "(-inf, inf)", "[2^2047, inf)", "empty"} {
					expectOutcome(t, c.name+" of "+text(none), c.call(none, iv(b), n, 4), outcome{a: iv("empty")})
					if c.two {
						expectOutcome(t, c.name+" of "+b+" and of "+text(none), c.call(iv(b), none, n, 4), outcome{a: iv("empty")})
					}
				}
			}
		}
	}
}

// P3.1: a large number in a result is an error that comes last; numbers on the way to a result do not count.
func TestLargeResults(t *testing.T) {
	for _, c := range []struct {
		what string
		got  outcome
		want string
	}{
		{"Add", made(interval.Add(iv("[1, 2^2047]"), iv("[1, 2^2047]"), 0)), ""},
		{"Add, lower end", made(interval.Add(iv("[-2^2048-1, inf)"), iv("[-1, 1]"), 0)), ""},
		{"Sub", made(interval.Sub(iv("[-2^2047, 0]"), iv("[2^2047, 2^2047]"), 0)), ""},
		{"Mul", made(interval.Mul(iv("[1, 2^2047]"), iv("[1, 2]"), 9)), ""},
		{"Div", made(interval.Div(iv("[2^2047, inf)"), iv("[1/4, 1/2]"), 9)), ""},
		{"Pow", made(interval.Pow(iv("[1, 2^1024]"), 2, 9)), ""},
		{"Pow, far", made(interval.Pow(iv("[2^-2047, 2^-2047]"), -32, 9)), ""},
		{"Round", made(interval.Round(model{lo: quo(number("2^2048-1"), whole(7))}.interval(), 128)), ""},
		{"Round, upper end", made(interval.Round(model{hi: quo(number("2^2048-1"), whole(7))}.interval(), 128)), ""},
		{"Round, less", made(interval.Round(model{lo: quo(number("2^2048-1"), whole(3))}.interval(), 0)), "[" + quo(number("2^2048-1"), whole(3)).RatString() + ", inf)"},
		{"Add of small numbers", made(interval.Add(iv("[2^-2047, 2^-2047]"), model{lo: quo(whole(1), number("2^2048-1")), hi: whole(1)}.interval(), 10)), "[0, 1025/1024]"},
		{"Mul of small numbers", made(interval.Mul(iv("[2^-2047, 2^-2047]"), iv("[-2^-2047, 2^-2047]"), 3)), "[-1/8, 1/8]"},
		{"Mul of inverses", made(interval.Mul(iv("[2^2047, 2^2047]"), iv("[2^-2047, 2^-2047]"), 3)), "[1, 1]"},
		{"Div of a small number", made(interval.Div(iv("[2^-2047, 2^-2047]"), iv("[2^2047, 2^2048-1]"), 3)), "[0, 1/8]"},
		{"Div of large numbers", made(interval.Div(iv("[2^2047, 2^2047]"), iv("[2^2047, 2^2047]"), 3)), "[1, 1]"},
		{"Sub of large numbers", made(interval.Sub(iv("[2^2048-1, 2^2048-1]"), iv("[2^2047, 2^2048-1]"), 3)), "[0, 2^2047-1]"},
		{"Pow of a small number", made(interval.Pow(iv("[2^-2047, 2^-2047]"), 32, 3)), "[0, 1/8]"},
		{"Pow, negative", made(interval.Pow(iv("[2^2047, 2^2048-1]"), -32, 3)), "[0, 1/8]"},
		{"Neg of a long number", made(interval.Neg(iv("[2^2048-1, inf)"))), "(-inf, -2^2048-1]"},
	} {
		want := outcome{err: api.ErrSize}
		if c.want != "" {
			want = outcome{a: iv(c.want)}
		}
		expectOutcome(t, c.what, c.got, want)
	}
	got, err := interval.Div(iv("[2^2047, 2^2047]"), iv("[0, 2^-2047]"), 3)
	expect(t, "Div by 0 with a large result", got, err, api.Interval{}, api.ErrZero)
	got, err = interval.Pow(iv("[2^2047, 2^2047]"), 33, 3)
	expect(t, "Pow with a wrong exponent and a large result", got, err, api.Interval{}, api.ErrArg)
	got, err = interval.Pow(iv("[2^2047, 2^2047]"), 32, 129)
	expect(t, "Pow with a wrong precision and a large result", got, err, api.Interval{}, api.ErrArg)
}

// lists returns the lists of words of an interval.
func lists(a api.Interval) [][]uint32 {
	return [][]uint32{a.Lo.Num, a.Lo.Den, a.Hi.Num, a.Hi.Den}
}

// copied returns a copy of a.
func copied(a api.Interval) api.Interval {
	return api.Interval{LoInf: a.LoInf, HiInf: a.HiInf, Lo: copiedRat(a.Lo), Hi: copiedRat(a.Hi)}
}

// copiedRat returns a copy of x.
func copiedRat(x api.Rat) api.Rat {
	return api.Rat{Neg: x.Neg, Num: slices.Clone(x.Num), Den: slices.Clone(x.Den)}
}

// R4: arguments are neither changed nor kept, and no lists of a result share memory.
func TestMemory(t *testing.T) {
	r := rand.New(rand.NewSource(32))
	list := callers()
	list = append(list, caller{"Point", false, func(a, b api.Interval, n, p int) outcome { return made(interval.Point(a.Lo)) }},
		caller{"Between", false, func(a, b api.Interval, n, p int) outcome { return made(interval.Between(a.Lo, a.Hi)) }})
	for _, c := range list {
		for range 60 {
			a, b := model{lo: fraction(random(r, 9)), hi: whole(1)}.interval(), randomModel(r, 9).interval()
			if c.name == "Hull" || c.name == "Meet" || r.Intn(2) == 0 {
				a = randomModel(r, 9).interval()
			}
			before, beforeB := copied(a), copied(b)
			got := c.call(a, b, 1+r.Intn(8), 6)
			again := c.call(a, b, 1, 6)
			unlike(t, c.name, got.a)
			for _, list := range append(lists(got.a), lists(again.a)...) {
				for i := range list {
					list[i]++
				}
			}
			if !reflect.DeepEqual(lists(a), lists(before)) || !reflect.DeepEqual(lists(b), lists(beforeB)) {
				t.Fatalf("%s changes or shares an argument", c.name)
			}
		}
	}
	whole := interval.Whole()
	whole.LoInf = false
	expect(t, "Whole", interval.Whole(), api.OK, iv("(-inf, inf)"), api.OK)
}

// unlike checks that the lists of a share no memory. It changes them.
func unlike(t *testing.T, what string, a api.Interval) {
	t.Helper()
	all := lists(a)
	for i, list := range all {
		before := make([][]uint32, len(all))
		for j := range all {
			before[j] = slices.Clone(all[j])
		}
		for k := range list {
			list[k]++
		}
		for j := range all {
			if i != j && !slices.Equal(all[j], before[j]) {
				t.Fatalf("%s: the lists %d and %d of a result share memory", what, i, j)
			}
		}
	}
}
