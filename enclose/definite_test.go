package enclose_test

import (
	"math/big"
	"math/rand"
	"strings"
	"testing"

	"inequality/api"
	"inequality/enclose"
	"inequality/interval"
)

// matrix returns the matrix of a text as in `[1, 2]; [0, 0] | [0, 0]; [1, inf)`.
func matrix(text string) [][]api.Interval {
	var m [][]api.Interval
	for row := range strings.SplitSeq(text, " | ") {
		m = append(m, ivs(row))
	}
	return m
}

// unit returns the unit matrix with n rows.
func unit(n int) [][]api.Interval {
	m := make([][]api.Interval, n)
	for i := range m {
		m[i] = make([]api.Interval, n)
		m[i][i] = iv("[1, 1]")
	}
	return m
}

// P5.12: Definite.
func TestDefinite(t *testing.T) {
	for _, c := range []struct {
		m    string
		p    int
		want bool
	}{
		{"[2, 2]; [1, 1] | [1, 1]; [2, 2]", 4, true}, {"[1, 1]; [2, 2] | [2, 2]; [1, 1]", 4, false},
		{"[1, 2]", 0, true}, {"[0, 2]", 0, false}, {"[-1, 2]", 0, false}, {"[-2, -1]", 0, false}, {"[0, 0]", 0, false}, {"[1/9, inf)", 0, true}, {"(-inf, 1]", 0, false}, {"(-inf, inf)", 0, false}, {"empty", 0, false},
		{"[1, 1]; [1, 1] | [1, 1]; [1, 1]", 4, false}, {"[1, 1]; [1, 1] | [1, 1]; [2, 2]", 4, true}, {"[1, 1]; [-1, -1] | [-1, -1]; [2, 2]", 4, true}, {"[2, 3]; [-1, 1] | [-1, 1]; [2, 3]", 4, true}, {"[2, 3]; [-2, 2] | [-2, 2]; [2, 3]", 4, false}, {"[1, 1]; [0, 0] | [0, 0]; [0, 0]", 4, false}, {"[1, 1]; [0, 0] | [0, 0]; [-1, 5]", 4, false}, {"[0, 0]; [0, 0] | [0, 0]; [1, 1]", 4, false},
		{"[1, 1]; [1, 1] | [9, 9]; [2, 2]", 4, true}, {"[1, 1]; [9, 9] | [1, 1]; [2, 2]", 4, false}, {"[1, 1]; [1, 1] | (-inf, inf); [2, 2]", 4, true}, {"[1, 1]; [-1, -1] | [2^2048-1, 2^2048-1]; [2, 2]", 4, true}, {"[1, 1]; [1, 1] | empty; [2, 2]", 4, false}, {"[1, 1]; empty | [1, 1]; [2, 2]", 4, false}, {"[1, 1]; [1, 1] | [1, 1]; empty", 4, false},
		{"[2, inf); [0, 1] | [0, 1]; [1, 1]", 4, true}, {"[1, 1]; [0, inf) | [0, inf); [1, 1]", 4, false}, {"[1, 1]; [0, 0] | [0, 0]; [1, inf)", 4, true},
		{"[3, 3]; [1, 1] | [1, 1]; [1/2, 1/2]", 2, false}, {"[3, 3]; [1, 1] | [1, 1]; [1/2, 1/2]", 3, true}, // 1/2 - 1/3, with 1/3 rounded
		{"[4, 4]; [1, 1]; [2, 2] | [1, 1]; [3, 3]; [1, 1] | [2, 2]; [1, 1]; [2, 2]", 6, true}, {"[4, 4]; [1, 1]; [2, 2] | [1, 1]; [3, 3]; [1, 1] | [2, 2]; [1, 1]; [1, 1]", 6, false}, {"[1, 1]; [0, 0]; [0, 0] | [0, 0]; [1, 1]; [1, 1] | [0, 0]; [1, 1]; [1, 1]", 6, false}, {"[1, 1]; [0, 0]; [1, 1] | [0, 0]; [1, 1]; [1, 1] | [1, 1]; [1, 1]; [3, 3]", 6, true}, {"[1, 1]; [0, 0]; [1, 1] | [0, 0]; [1, 1]; [1, 1] | [1, 1]; [1, 1]; [2, 2]", 6, false},
		{"[1, 1]; [2^2040, 2^2040] | [2^2040, 2^2040]; [1, 1]", 6, false}, {"[-1, 1]; [2^2040, 2^2040] | [2^2040, 2^2040]; [1, 1]", 6, false}, // the square is large
	} {
		m := matrix(c.m)
		if got, err := enclose.Definite(m, c.p); got != c.want || err != api.OK {
			t.Errorf("Definite(%s, %d) is %v, error %d", c.m, c.p, got, err)
		}
		for _, row := range m {
			for j, a := range row {
				if c.m != "empty" && !strings.Contains(c.m, "2^") {
					row[j] = disguisedIv(a)
				}
			}
		}
		if strings.Contains(c.m, "empty") {
			continue
		}
		if got, err := enclose.Definite(m, c.p); got != c.want || err != api.OK {
			t.Errorf("Definite(%s, %d), disguised, is %v, error %d", c.m, c.p, got, err)
		}
	}
	for n := range api.MaxSides + 1 {
		if got, err := enclose.Definite(unit(n), api.MaxPrec); !got || err != api.OK {
			t.Errorf("Definite of %d rows of the unit matrix is %v, error %d", n, got, err)
		}
		m := unit(n)
		if n > 0 {
			m[n-1][n-1] = iv("[0, 1]")
			if got, err := enclose.Definite(m, 0); got || err != api.OK {
				t.Errorf("Definite of %d rows with a last entry that may be 0 is %v, error %d", n, got, err)
			}
		}
	}
}

// P5.12: the errors of Definite.
func TestDefiniteErrors(t *testing.T) {
	large := api.Interval{Hi: rat("2^2048")}
	spoilt := func(n, i, j int, a api.Interval) [][]api.Interval {
		m := unit(n)
		m[i][j] = a
		return m
	}
	ragged := func(n, i, length int) [][]api.Interval {
		m := unit(n)
		m[i] = make([]api.Interval, length)
		if length > 0 {
			m[i][0] = large
		}
		return m
	}
	for what, c := range map[string]struct {
		m    [][]api.Interval
		p    int
		want api.Errno
	}{
		"seven rows":                 {unit(7), 4, api.ErrArg},
		"seven rows without columns": {make([][]api.Interval, 7), 4, api.ErrArg},
		"a million rows":             {make([][]api.Interval, 1000000), 4, api.ErrArg},
		"a row without columns":      {make([][]api.Interval, 1), 4, api.ErrArg},
		"a short row":                {ragged(3, 2, 2), 4, api.ErrArg},
		"a long row":                 {ragged(3, 0, 4), 4, api.ErrArg},
		"seven columns":              {ragged(6, 5, 7), 4, api.ErrArg},
		"a short row behind a large": {append(spoilt(2, 0, 0, large), nil), 4, api.ErrArg},
		"a low precision":            {unit(2), -1, api.ErrArg},
		"a high precision":           {unit(2), api.MaxPrec + 1, api.ErrArg},
		"no rows, a high precision":  {nil, api.MaxPrec + 1, api.ErrArg},
		"a large one, precision -1":  {spoilt(2, 0, 0, large), -1, api.ErrArg},
		"a large one":                {spoilt(2, 0, 0, large), 4, api.ErrSize},
		"a large one at the end":     {spoilt(6, 5, 5, large), 4, api.ErrSize},
		"a large one below":          {spoilt(3, 2, 0, large), 4, api.ErrSize},
		"a large one not looked at":  {spoilt(3, 0, 2, api.Interval{Lo: rat("2^-2048"), LoInf: true}), 4, api.ErrSize},
		"an empty large one":         {spoilt(3, 0, 2, api.Interval{Lo: rat("2^2048")}), 4, api.ErrSize},
		"no rows":                    {nil, 4, api.OK},
	} {
		if got, err := enclose.Definite(c.m, c.p); got != (c.want == api.OK) || err != c.want {
			t.Errorf("Definite, %s: %v, error %d, want %d", what, got, err, c.want)
		}
	}
	m := spoilt(2, 1, 1, large)
	m[0][0] = iv("[-1, -1]")
	m[0][1] = iv("empty")
	if got, err := enclose.Definite(m, 4); got || err != api.ErrSize {
		t.Errorf("Definite of a large entry behind a negative and an empty one: %v, error %d", got, err)
	}
}

// eliminated is P5.12 with a copy of all of m.
func eliminated(m [][]api.Interval, p int) bool {
	c := calc{p: p}
	for k := range m {
		if sign, _ := interval.Sign(m[k][k]); sign != api.SignPos {
			return false
		}
		next := make([][]api.Interval, len(m))
		for i := range m {
			next[i] = append(next[i], m[i]...)
		}
		for i := k + 1; i < len(m); i++ {
			for j := i; j < len(m); j++ {
				q, err := interval.Div(c.mul(m[k][i], m[k][j]), m[k][k], p)
				a := c.sub(m[i][j], note(&c, q, err))
				next[i][j], next[j][i] = a, a
			}
		}
		if c.err != api.OK {
			return false
		}
		m = next
	}
	return true
}

// randomMatrix returns a matrix of intervals around a symmetric one that is often positive definite.
func randomMatrix(r *rand.Rand, n int) [][]api.Interval {
	m := make([][]api.Interval, n)
	for i := range m {
		m[i] = make([]api.Interval, n)
	}
	for i := range n {
		for j := i; j < n; j++ {
			low := big.NewRat(int64(r.Intn(33)-16), 8)
			if i == j {
				low.Add(low.Abs(low), big.NewRat(int64(r.Intn(n+1)), 2))
			}
			high := new(big.Rat).Add(low, big.NewRat(int64(r.Intn(4)*r.Intn(2)), 8))
			m[i][j] = api.Interval{Lo: canonical(low), Hi: canonical(high)}
			m[j][i] = m[i][j]
		}
	}
	return m
}

// P5.12 and P5.16: Definite is what the chapter says, and if it is true, then v' * m * v is positive.
func TestDefiniteMatrices(t *testing.T) {
	r := rand.New(rand.NewSource(61))
	yes := 0
	for range 2000 {
		n, p := 1+r.Intn(4), r.Intn(20)
		m := randomMatrix(r, n)
		got, err := enclose.Definite(m, p)
		if want := eliminated(m, p); got != want || err != api.OK {
			t.Fatalf("Definite(%v, %d) is %v, error %d, want %v", m, p, got, err, want)
		}
		if !got {
			continue
		}
		yes++
		for range 5 {
			form, v := new(big.Rat), make([]*big.Rat, n)
			zero := true
			for i := range v {
				v[i] = smallNumber(r)
				zero = zero && v[i].Sign() == 0
			}
			for i := range n {
				for j := i; j < n; j++ {
					part := new(big.Rat).Mul(v[i], v[j])
					part.Mul(part, randomMember(r, m[i][j]))
					form.Add(form, part)
					if i != j {
						form.Add(form, part)
					}
				}
			}
			if !zero && form.Sign() <= 0 {
				t.Errorf("%v is definite, but has the value %s at %v", m, form, v)
			}
		}
	}
	if yes < 200 {
		t.Errorf("only %d matrices are definite", yes)
	}
}
