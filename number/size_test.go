package number_test

import (
	"strings"
	"testing"

	"inequality/api"
	"inequality/number"
)

// outcome is the result of a call, with the results that are no number made one.
type outcome struct {
	x   api.Rat
	err api.Errno
}

// count makes an outcome of a result that is an int.
func count(n int, err api.Errno) outcome {
	return outcome{number.FromInt(n), err}
}

// calls returns every function that takes numbers, with other arguments n and p where it has them.
func calls() map[string]func(x, y api.Rat, n, p int) outcome {
	one := func(f func(api.Rat) (api.Rat, api.Errno)) func(x, y api.Rat, n, p int) outcome {
		return func(x, y api.Rat, n, p int) outcome { r, e := f(x); return outcome{r, e} }
	}
	two := func(f func(x, y api.Rat) (api.Rat, api.Errno)) func(x, y api.Rat, n, p int) outcome {
		return func(x, y api.Rat, n, p int) outcome { r, e := f(x, y); return outcome{r, e} }
	}
	return map[string]func(x, y api.Rat, n, p int) outcome{
		"Canon": one(number.Canon), "Neg": one(number.Neg), "Abs": one(number.Abs), "Floor": one(number.Floor), "Ceil": one(number.Ceil),
		"Add": two(number.Add), "Sub": two(number.Sub), "Mul": two(number.Mul), "Div": two(number.Div), "Middle": two(number.Middle), "Simplest": two(number.Simplest),
		"Sign":    func(x, y api.Rat, n, p int) outcome { return count(number.Sign(x)) },
		"Bits":    func(x, y api.Rat, n, p int) outcome { return count(number.Bits(x)) },
		"Compare": func(x, y api.Rat, n, p int) outcome { return count(number.Compare(x, y)) },
		"Pow":     func(x, y api.Rat, n, p int) outcome { r, e := number.Pow(x, n); return outcome{r, e} },
		"Down":    func(x, y api.Rat, n, p int) outcome { r, e := number.Down(x, p); return outcome{r, e} },
		"Up":      func(x, y api.Rat, n, p int) outcome { r, e := number.Up(x, p); return outcome{r, e} },
		"RootDown": func(x, y api.Rat, n, p int) outcome {
			r, e := number.RootDown(x, n, p)
			return outcome{r, e}
		},
		"RootUp": func(x, y api.Rat, n, p int) outcome { r, e := number.RootUp(x, n, p); return outcome{r, e} },
		"Root": func(x, y api.Rat, n, p int) outcome {
			r, ok, e := number.Root(x, n)
			if ok && e != api.OK {
				r = number.FromInt(1)
			}
			return outcome{r, e}
		},
		"Format": func(x, y api.Rat, n, p int) outcome { s, e := number.Format(x); return count(len(s), e) },
	}
}

// takesTwo tells which of the calls have two numbers.
func takesTwo(name string) bool {
	return strings.Contains(" Add Sub Mul Div Middle Simplest Compare ", " "+name+" ")
}

// largeNumbers are large for each of the reasons that there are.
func largeNumbers() map[string]api.Rat {
	zeros := make([]uint32, 4*api.MaxWords)
	return map[string]api.Rat{
		"2^2048":                  power2(2048, 0),
		"-2^2048":                 opposite(power2(2048, 0)),
		"1/2^2048":                inverse(power2(2048, 0)),
		"2^4000/3":                rat("1" + strings.Repeat("0", 1200) + "/3"),
		"0 over 257 words":        {Den: append(zeros, 1)},
		"1 as 257 words by 257":   {Num: append(zeros, 7), Den: append(zeros, 7)},
		"257 words by 1":          {Num: append(zeros, 1)},
		"minus 0 over 257 words":  {Neg: true, Den: append(zeros, 1, 0, 0)},
		"65 words with words 0":   {Num: append(make([]uint32, 64), 1, 0, 0)},
		"a denominator too large": {Num: []uint32{1}, Den: append(make([]uint32, 64), 1)},
	}
}

// P1.1: a large argument comes before all other errors, in every function and at every place.
func TestLargeArguments(t *testing.T) {
	for what, large := range largeNumbers() {
		for name, call := range calls() {
			zero, two := api.Rat{}, number.FromInt(2)
			for _, c := range []struct {
				where string
				got   outcome
			}{
				{"first", call(large, two, 2, 4)},
				{"first, with wrong integers", call(large, two, -100, -1)},
				{"first, with 0", call(large, zero, 0, 300)},
				{"both", call(large, large, 2, 4)},
			} {
				if c.got.err != api.ErrSize || !same(c.got.x, zero) {
					t.Errorf("%s, %s (%s): %v", name, what, c.where, c.got)
				}
			}
			if !takesTwo(name) {
				continue
			}
			if got := call(two, large, 2, 4); got.err != api.ErrSize || !same(got.x, zero) {
				t.Errorf("%s, %s (second): %v", name, what, got)
			}
		}
	}
}

// P1.1: what counts is the size in lowest terms, and words 0 in front do not count.
func TestNotLarge(t *testing.T) {
	common := make([]uint32, 4*api.MaxWords)
	common[4*api.MaxWords-1] = 1 << 30
	twice := append(make([]uint32, 4*api.MaxWords-1), 1<<31)
	for what, c := range map[string]struct {
		x    api.Rat
		want string
	}{
		"256 words by 256":      {api.Rat{Num: common, Den: twice}, "1/2"},
		"2 over 1":              {api.Rat{Num: twice, Den: common}, "2"},
		"0 over 256 words":      {api.Rat{Den: twice}, "0"},
		"many words 0":          {api.Rat{Num: append([]uint32{5}, make([]uint32, 1000)...), Den: append([]uint32{3}, make([]uint32, 1000)...)}, "5/3"},
		"words 0 alone":         {api.Rat{Neg: true, Num: make([]uint32, 500), Den: make([]uint32, 500)}, "0"},
		"65 words by 2 words":   {api.Rat{Num: power2(2048, 0).Num, Den: []uint32{0, 1}}, value(power2(2016, 0)).RatString()},
		"64 words":              {power2(2048, -1), value(power2(2048, -1)).RatString()},
		"64 words, denominator": {inverse(power2(2048, -1)), value(inverse(power2(2048, -1))).RatString()},
	} {
		x, err := number.Canon(c.x)
		expect(t, what, x, err, value(rat(c.want)), api.OK)
		if s, err := number.Format(c.x); s != c.want || err != api.OK {
			t.Errorf("%s is written %q (%d)", what, s, err)
		}
		for name, call := range calls() {
			if e := call(c.x, c.x, 3, 0).err; e != api.OK && name != "Div" && name != "Mul" && name != "Pow" && name != "Add" {
				t.Errorf("%s of %s: error %d", name, what, e)
			}
		}
	}
}

// P1.1: a large result comes after all other errors; numbers on the way to a result do not count.
func TestLargeResults(t *testing.T) {
	most, half, one, two := power2(2048, -1), power2(2047, 0), number.FromInt(1), number.FromInt(2)
	third := canonical(value(rat(value(most).RatString() + "/7")))
	for name, got := range map[string]func() (api.Rat, api.Errno){
		"Add":           func() (api.Rat, api.Errno) { return number.Add(half, half) },
		"Add one":       func() (api.Rat, api.Errno) { return number.Add(most, one) },
		"Add fractions": func() (api.Rat, api.Errno) { return number.Add(inverse(most), inverse(half)) },
		"Sub":           func() (api.Rat, api.Errno) { return number.Sub(opposite(most), one) },
		"Mul":           func() (api.Rat, api.Errno) { return number.Mul(half, two) },
		"Mul small":     func() (api.Rat, api.Errno) { return number.Mul(inverse(half), inverse(two)) },
		"Div":           func() (api.Rat, api.Errno) { return number.Div(half, inverse(two)) },
		"Div small":     func() (api.Rat, api.Errno) { return number.Div(inverse(two), half) },
		"Pow":           func() (api.Rat, api.Errno) { return number.Pow(power2(64, 0), 32) },
		"Pow negative":  func() (api.Rat, api.Errno) { return number.Pow(power2(64, 0), -32) },
		"Pow most":      func() (api.Rat, api.Errno) { return number.Pow(most, 32) },
		"Down":          func() (api.Rat, api.Errno) { return number.Down(third, 256) },
		"Up":            func() (api.Rat, api.Errno) { return number.Up(third, 256) },
		"Middle":        func() (api.Rat, api.Errno) { return number.Middle(inverse(half), api.Rat{}) },
		"Parse":         func() (api.Rat, api.Errno) { return number.Parse(value(power2(2048, 0)).RatString()) },
		"Parse small":   func() (api.Rat, api.Errno) { return number.Parse("0." + strings.Repeat("0", 700) + "1") },
	} {
		x, err := got()
		expect(t, name, x, err, nil, api.ErrSize)
	}
	x, err := number.Div(half, api.Rat{})
	expect(t, "a large number by 0", x, err, nil, api.ErrZero)
	x, err = number.Down(third, 257)
	expect(t, "a large result with a wrong precision", x, err, nil, api.ErrArg)
	x, err = number.Pow(most, 33)
	expect(t, "a large result with a wrong exponent", x, err, nil, api.ErrArg)

	x, err = number.Add(most, opposite(most))
	expect(t, "Add of opposites", x, err, value(api.Rat{}), api.OK)
	x, err = number.Sub(most, most)
	expect(t, "Sub of the same", x, err, value(api.Rat{}), api.OK)
	x, err = number.Add(most, number.FromInt(-1))
	expect(t, "Add of 64 words", x, err, value(power2(2048, -2)), api.OK)
	x, err = number.Mul(most, inverse(most))
	expect(t, "Mul of inverses", x, err, value(one), api.OK)
	x, err = number.Div(most, most)
	expect(t, "Div of the same", x, err, value(one), api.OK)
	x, err = number.Middle(most, most)
	expect(t, "Middle of the same", x, err, value(most), api.OK)
	x, err = number.Pow(power2(63, 0), 32)
	expect(t, "Pow", x, err, value(power2(63*32, 0)), api.OK)
	x, err = number.Down(most, 256)
	expect(t, "Down of an integer", x, err, value(most), api.OK)
	x, err = number.RootDown(power2(2047, 0), 2, 256)
	if err != api.OK || isLarge(x) {
		t.Errorf("RootDown of a long number: %v, %d", x, err)
	}
	x, err = number.Parse("1" + strings.Repeat("0", 618) + "/1" + strings.Repeat("0", 617))
	expect(t, "Parse of long parts", x, err, value(number.FromInt(10)), api.OK)
	x, err = number.Parse("3." + strings.Repeat("0", api.MaxDigits-2))
	expect(t, "Parse of a long fraction", x, err, value(number.FromInt(3)), api.OK)
}
