package library_test

import (
	"testing"

	"inequality/api"
	"inequality/library"
)

// expectCovers checks whether an entry with one claim covers another claim, however their numbers are denoted.
func expectCovers(t *testing.T, m, c string, want bool) {
	t.Helper()
	e, d := stated("m 1", m, "0 range 8"), stated("c 1", c, "0 range 8")
	for bits := range 4 {
		list := []api.Entry{e}
		if bits&1 > 0 {
			list[0] = disguisedEntry(e)
		}
		claim := d.Claim
		if bits&2 > 0 {
			claim = disguisedEntry(d).Claim
		}
		if got, err := library.Covers(list, key("m 1"), claim); got != want || err != api.OK {
			t.Errorf("Covers(%s, %s) is %v, error %d", m, c, got, err)
		}
	}
}

// P9.6: each of the conditions that hold, or just do not. The first row is example 2.
func TestCovers(t *testing.T) {
	for _, c := range []struct {
		m, c string
		want bool
	}{
		{"exp(x) - (1 + x) >= 0 for x in [-1, 1]", "exp(x) - (1 + x) >= 0 for x in [0, 1], y in [0, 1]", true},
		{"1 > 0", "1 > 0", true}, {"1 >= 0", "1 >= 0", true}, {"1 > 0", "1 >= 0", true}, {"1 >= 0", "1 > 0", false}, {"1 > 0", "2 > 0", false}, {"1/2 > 0", "2/4 > 0", true},
		// goals
		{"x + y > 0 for x in [0, 1], y in [0, 1]", "y + x > 0 for x in [0, 1], y in [0, 1]", false},
		{"x > 0 for x in [0, 1]", "y > 0 for y in [0, 1]", false},
		{"x + 1 > 0 for x in [0, 1]", "x + 1 - 0 > 0 for x in [0, 1]", false}, {"x > 1 for x in [0, 1]", "x - 1 > 0 for x in [0, 1]", true}, {"x > 1 for x in [0, 1]", "0 < x - 1 for x in [0, 1]", true},
		// sides
		{"x > 0 for x in [0, 1]", "x > 0 for x in [0, 1]", true}, {"x > 0 for x in [0, 1]", "x > 0 for x in [1/3, 2/3]", true}, {"x > 0 for x in [0, 1]", "x > 0 for x in [1, 1]", true},
		{"x > 0 for x in [0, 1]", "x > 0 for x in [0, 1001/1000]", false}, {"x > 0 for x in [0, 1]", "x > 0 for x in [-1/1000, 1]", false}, {"x > 0 for x in [0, 1]", "x > 0 for x in [2, 3]", false}, {"x > 0 for x in [1, 1]", "x > 0 for x in [0, 1]", false},
		{"x > 0 for x in [0, inf)", "x > 0 for x in [0, inf)", true}, {"x > 0 for x in [0, inf)", "x > 0 for x in [7, 8]", true}, {"x > 0 for x in [0, 1]", "x > 0 for x in [0, inf)", false}, {"x > 0 for x in (-inf, 1]", "x > 0 for x in (-inf, 0]", true}, {"x > 0 for x in (-inf, 0]", "x > 0 for x in (-inf, 1]", false}, {"x > 0 for x in (-inf, inf)", "x > 0 for x in (-inf, inf)", true}, {"x > 0 for x in [0, inf)", "x > 0 for x in (-inf, inf)", false},
		{"1 > 0 for x in [0, 1]", "1 > 0", false}, {"1 > 0", "1 > 0 for x in [0, 1]", true}, {"1 > 0 for y in [0, 1]", "1 > 0 for x in [0, 1], y in [0, 1], z in [0, 1]", true}, {"1 > 0 for x in [0, 1], z in [0, 1]", "1 > 0 for x in [0, 1], y in [0, 1]", false}, {"1 > 0 for x in [0, 1], z in [0, 1]", "1 > 0 for x in [0, 1], y in [5, 7], z in [0, 2]", false},
		// conditions
		{"1 > 0 where 2 > 0", "1 > 0", false}, {"1 > 0", "1 > 0 where 2 > 0", true}, {"1 > 0 where 2 > 0", "1 > 0 where 2 > 0", true}, {"1 > 0 where 2 >= 0", "1 > 0 where 2 > 0", true}, {"1 > 0 where 2 > 0", "1 > 0 where 2 >= 0", false}, {"1 > 0 where 2 > 0", "1 > 0 where 3 > 0", false}, {"1 > 0 where 2 >= 0", "1 > 0 where 2 >= 0", true},
		{"1 > 0 where 2 > 0, 3 >= 0", "1 > 0 where 3 > 0, 4 >= 0, 2 > 0", true}, {"1 > 0 where 2 > 0, 3 >= 0", "1 > 0 where 2 > 0", false}, {"1 > 0 where 2 > 0, 3 >= 0", "1 > 0 where 3 > 0", false}, {"1 > 0 where 2 > 0, 2 >= 0, 2 > 0", "1 > 0 where 2 > 0", true}, {"1 > 0 where 2 > 0", "1 > 0 where 2 >= 0, 2 > 0", true},
		{"1 > 0 for x in [0, 1] where x + 1 > 0", "1 > 0 for x in [0, 1] where 1 + x > 0", false}, {"1 >= 0 for x in [0, 1] where x >= 1/2", "1 >= 0 for x in [0, 1] where x - 2/4 > 0", true},
	} {
		expectCovers(t, c.m, c.c, c.want)
	}
}

// P9.6: the entry is the first one with the key, and no proof counts.
func TestCoversEntries(t *testing.T) {
	list := textbook()
	for i, e := range list {
		for j, d := range list {
			got, err := library.Covers(list, api.Key{Name: e.Name, Ver: e.Ver}, d.Claim)
			if got != (i == j) || err != api.OK {
				t.Errorf("Covers(%s, %s) is %v, error %d", e.Name, d.Name, got, err)
			}
		}
	}
	list = []api.Entry{stated("m 1", "1 > 0", "0 range 8"), stated("m 1", "2 > 0", "0 range 8"), {Name: "m", Ver: 2, Claim: cl("3 > 0")}, {Name: "", Ver: -1, Claim: cl("4 > 0")}}
	for text, want := range map[string]bool{"1 > 0": true, "2 > 0": false} {
		if got, err := library.Covers(list, key("m 1"), cl(text)); got != want || err != api.OK {
			t.Errorf("Covers(m 1, %s) is %v, error %d", text, got, err)
		}
	}
	for own, text := range map[string]string{"m 2": "3 > 0", " -1": "4 > 0"} {
		if got, err := library.Covers(list, key(own), cl(text)); !got || err != api.OK {
			t.Errorf("Covers(%s, %s) is %v, error %d", own, text, got, err)
		}
	}
}

// P9.6: no such entry, then claims that are not valid, also where the answer could be seen without them.
func TestCoversErrors(t *testing.T) {
	list := lib("m 1")
	for _, bad := range append(badClaims(), cl("5 > 0")) {
		list = append(list, api.Entry{Name: "b", Ver: len(list), Claim: bad})
	}
	for _, c := range append(badClaims(), cl("1 > 0"), cl("5 > 0")) {
		for _, k := range keys("m 2", "m 0", "M 1", "a 1", " 1", "b 0") {
			if got, err := library.Covers(list, k, c); got || err != api.ErrEntry {
				t.Errorf("Covers without an entry is %v, error %d", got, err)
			}
		}
	}
	for i, e := range list {
		for j, c := range append(badClaims(), cl("1 > 0"), cl("5 > 0")) {
			bad := j < len(badClaims()) || i > 0 && i <= len(badClaims())
			got, err := library.Covers(list, api.Key{Name: e.Name, Ver: e.Ver}, c)
			if bad && (got || err != api.ErrClaim) || !bad && err != api.OK {
				t.Errorf("Covers of entry %d and claim %d is %v, error %d", i, j, got, err)
			}
		}
	}
	if got, err := library.Covers(nil, key("a 1"), cl("1 > 0")); got || err != api.ErrEntry {
		t.Errorf("Covers in an empty library is %v, error %d", got, err)
	}
}
