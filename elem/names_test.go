package elem_test

import (
	"fmt"
	"testing"

	"inequality/api"
	"inequality/elem"
)

// P2.2: the names of the functions.
func TestNames(t *testing.T) {
	names := []string{"", "exp", "log", "sin", "cos", "tan", "asin", "acos", "atan"}
	for fn := 1; fn <= 8; fn++ {
		if got := elem.Name(fn); got != names[fn] {
			t.Errorf("Name(%d) is %q", fn, got)
		}
		if got, ok := elem.Find(names[fn]); got != fn || !ok {
			t.Errorf("Find(%q) is %d, %v", names[fn], got, ok)
		}
	}
	for _, fn := range []int{-1 << 63, -1, 0, 9, 1<<63 - 1} {
		if got := elem.Name(fn); got != "" {
			t.Errorf("Name(%d) is %q", fn, got)
		}
	}
	for _, name := range []string{"", "Exp", "ex", "expo", " exp", "exp ", "ln", "pi", "sqrt", "abs", "exp\x00", "\xff"} {
		if got, ok := elem.Find(name); got != 0 || ok {
			t.Errorf("Find(%q) is %d, %v", name, got, ok)
		}
	}
}

// P2.2: where the functions are defined, also beyond the range of their brackets.
func TestDefined(t *testing.T) {
	everywhere := []int{api.FnExp, api.FnSin, api.FnCos, api.FnTan, api.FnAtan}
	list := map[string][]int{ // the functions that are defined there, beside those that are everywhere
		"0":         {api.FnAsin, api.FnAcos},
		"1":         {api.FnLog, api.FnAsin, api.FnAcos},
		"-1":        {api.FnAsin, api.FnAcos},
		"1/3":       {api.FnLog, api.FnAsin, api.FnAcos},
		"-1/3":      {api.FnAsin, api.FnAcos},
		"1000/999":  {api.FnLog},
		"-1000/999": nil,
		"65":        {api.FnLog},
		"1e400":     {api.FnLog},
		"-1e400":    nil,
		"1e-400":    {api.FnLog, api.FnAsin, api.FnAcos},
		"-1e-400":   {api.FnAsin, api.FnAcos},
	}
	for text, functions := range list {
		want := map[int]bool{}
		for _, fn := range append(functions, everywhere...) {
			want[fn] = true
		}
		for fn := 1; fn <= 8; fn++ {
			if ok, err := elem.Defined(fn, rat(text)); ok != want[fn] || err != api.OK {
				t.Errorf("Defined(%s, %s) is %v, %d", elem.Name(fn), text, ok, err)
			}
		}
	}
	// A number counts by what it denotes.
	if ok, _ := elem.Defined(api.FnLog, api.Rat{Neg: true, Num: []uint32{0, 0}, Den: []uint32{3}}); ok {
		t.Errorf("log is defined at minus 0")
	}
	if ok, _ := elem.Defined(api.FnAcos, api.Rat{Neg: true, Num: []uint32{6, 0}, Den: []uint32{6}}); !ok {
		t.Errorf("acos is undefined at -6/6")
	}
}

// P2.2, P2.3: the rational values, and their brackets with every precision.
func TestExact(t *testing.T) {
	zeros := []api.Rat{{}, {Neg: true}, {Num: []uint32{0, 0}, Den: []uint32{7}}, {Neg: true, Den: []uint32{0, 0, 1}}}
	ones := []api.Rat{rat("1"), {Num: []uint32{1, 0}}, {Num: []uint32{6}, Den: []uint32{6, 0}}, {Num: []uint32{0, 9}, Den: []uint32{0, 9}}}
	others := []api.Rat{rat("-1"), rat("2"), rat("1/2"), rat("-1/2"), rat("1e-300"), rat("1e300"), rat("-1e300")}
	at := map[int][]api.Rat{api.FnExp: zeros, api.FnLog: ones, api.FnSin: zeros, api.FnCos: zeros, api.FnTan: zeros, api.FnAsin: zeros, api.FnAcos: ones, api.FnAtan: zeros}
	values := map[int]int{api.FnExp: 1, api.FnCos: 1}
	for fn := 1; fn <= 8; fn++ {
		for _, x := range at[fn] {
			v, ok, err := elem.Exact(fn, x)
			if !isCanonical(v, whole(values[fn])) || !ok || err != api.OK {
				t.Errorf("Exact(%s, %v) is %v, %v, %d", elem.Name(fn), x, v, ok, err)
			}
			for p := 0; p <= api.MaxPrec; p += 16 {
				b, err := brackets()[fn](x, p)
				expect(t, fmt.Sprintf("%s(%v, %d)", elem.Name(fn), x, p), b, err, pair{whole(values[fn]), whole(values[fn])}, api.OK)
				b, err = elem.Apply(fn, x, p)
				expect(t, fmt.Sprintf("Apply(%s, %v, %d)", elem.Name(fn), x, p), b, err, pair{whole(values[fn]), whole(values[fn])}, api.OK)
			}
		}
		wrong := append(ones, others...)
		if fn == api.FnLog || fn == api.FnAcos {
			wrong = append(zeros, others...)
		}
		for _, x := range wrong {
			if v, ok, err := elem.Exact(fn, x); !isCanonical(v, whole(0)) || ok || err != api.OK {
				t.Errorf("Exact(%s, %v) is %v, %v, %d", elem.Name(fn), x, v, ok, err)
			}
		}
	}
}

// P2.10, R5: a number counts by what it denotes, and not by how.
func TestDenoted(t *testing.T) {
	x, y := rat("3/5"), api.Rat{Num: []uint32{0, 9, 0}, Den: []uint32{0, 15}}
	for fn := 1; fn <= 8; fn++ {
		want := bracket(t, fn, value(x), 50)
		b, err := elem.Apply(fn, y, 50)
		expect(t, elem.Name(fn), b, err, want, api.OK)
	}
}
