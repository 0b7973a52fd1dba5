package search_test

import (
	"slices"
	"strings"
	"testing"

	"inequality/api"
	"inequality/search"
)

// P8.2: the plans that are valid.
func TestValid(t *testing.T) {
	for _, p := range goodPlans() {
		if !search.Valid(p) {
			t.Errorf("%v is not valid", p)
		}
	}
	for _, p := range badPlans() {
		if search.Valid(p) {
			t.Errorf("%v is valid", p)
		}
	}
}

// candidateTexts returns the texts of the candidates of a claim.
func candidateTexts(t *testing.T, c api.Claim) []string {
	t.Helper()
	points, err := search.Candidates(c)
	if err != api.OK {
		t.Errorf("Candidates(%s): error %d", claimText(c), err)
	}
	var list []string
	for _, at := range points {
		list = append(list, pointText(at))
	}
	return list
}

// P8.2: candidates of boxes of all kinds.
func TestCandidates(t *testing.T) {
	for _, c := range []struct{ sides, want string }{
		{"", "[]"},
		{"x in [0, 1]", "[x=1/2] [x=0] [x=1]"},
		{"x in [-1, 2]", "[x=1/2] [x=-1] [x=2]"},
		{"x in [1/3, 1/3]", "[x=1/3]"},
		{"x in [0, 0]", "[x=0]"},
		{"x in [0, inf)", "[x=1]"},
		{"x in (-inf, -1/2]", "[x=-3/2]"},
		{"x in (-inf, inf)", "[x=0]"},
		{"x in [0, 2], y in [5, 6]", "[x=1, y=11/2] [x=0, y=5] [x=2, y=5] [x=0, y=6] [x=2, y=6]"},
		{"x in [0, 0], y in [5, 6]", "[x=0, y=11/2] [x=0, y=5] [x=0, y=6]"},
		{"x in [5, 6], y in [0, 0]", "[x=11/2, y=0] [x=5, y=0] [x=6, y=0]"},
		{"x in [3, 3], y in [5, 5]", "[x=3, y=5]"},
		{"x in [0, 2], y in [5, inf)", "[x=1, y=6]"},
		{"x in (-inf, 2], y in [5, 6]", "[x=1, y=11/2]"},
		{"x in (-inf, 2], y in [5, inf), z in (-inf, inf)", "[x=1, y=6, z=0]"},
		{"x in [0, 2], y in [1, 1], z in [3, 7]", "[x=1, y=1, z=5] [x=0, y=1, z=3] [x=2, y=1, z=3] [x=0, y=1, z=7] [x=2, y=1, z=7]"},
		{"x in [0, 2], y in [1, 2], z in [3, 7]", "[x=1, y=3/2, z=5] [x=0, y=1, z=3] [x=2, y=1, z=3] [x=0, y=2, z=3] [x=2, y=2, z=3] [x=0, y=1, z=7] [x=2, y=1, z=7] [x=0, y=2, z=7] [x=2, y=2, z=7]"},
	} {
		text := "1 > 0"
		if c.sides != "" {
			text += " for " + c.sides
		}
		for _, d := range []api.Claim{cl(text), disguisedClaim(cl(text)), cl(text + " where 1 < 0, 1 / (1 - 1) > 0")} { // neither the goal nor the conditions matter
			if got := strings.Join(candidateTexts(t, d), " "); got != c.want {
				t.Errorf("Candidates of %q: %s", c.sides, got)
			}
		}
	}
}

// P8.2: the 65 candidates of a box with six sides, in order and each once.
func TestManyCandidates(t *testing.T) {
	c := cl("1 > 0 for a in [0, 1], b in [0, 1], c in [0, 1], d in [0, 1], e in [0, 1], f in [0, 1]")
	want := []string{"[a=1/2, b=1/2, c=1/2, d=1/2, e=1/2, f=1/2]"}
	for i := range 64 {
		var parts []string
		for j, name := range []string{"a", "b", "c", "d", "e", "f"} {
			parts = append(parts, name+"="+[]string{"0", "1"}[i>>j%2])
		}
		want = append(want, "["+strings.Join(parts, ", ")+"]")
	}
	if got := candidateTexts(t, c); !slices.Equal(got, want) {
		t.Errorf("Candidates: %v", got)
	}
}

// largeBoxes are claims with a center that is large, and the entries of the list that they reach.
func largeBoxes() []api.Claim {
	return []api.Claim{over("x > 0 for x in [0, 1]", "[2^2048-1, inf)"), over("x > 0 for x in [0, 1]", "(-inf, -2^2048-1]"), over("x > 0 for x in [0, 1]", "[0, 2^-2047]"), over("x + y > 0 for x in [0, 1], y in [0, 1]", "[0, 1]", "[2^-2047, 2^-2046]")}
}

// P8.2: numbers of the center that are large. A center that is not large has corners that are none, either.
func TestLargeCandidates(t *testing.T) {
	for _, c := range largeBoxes() {
		if got, err := search.Candidates(c); len(got) > 0 || err != api.ErrSize {
			t.Errorf("Candidates(%s): %v, error %d", claimText(c), got, err)
		}
		if got, found, err := search.Refute(c, plan(1, 8, 1)); len(got) > 0 || found || err != api.ErrSize {
			t.Errorf("Refute(%s): %v, %v, error %d", claimText(c), got, found, err)
		}
	}
	for sides, want := range map[string]int{"[-2^2048-1, 2^2048-1]": 3, "[2^2047, 2^2047]": 1, "[2^-2047, 2^-2047]": 1, "[0, 2^-2046]": 3, "[2^2047, inf)": 1, "[-2^2048-1, inf)": 1, "(-inf, 2^2048-1]": 1} {
		if got, err := search.Candidates(over("x > 0 for x in [0, 1]", sides)); len(got) != want || err != api.OK {
			t.Errorf("Candidates of %s: %d, error %d", sides, len(got), err)
		}
	}
}

// P8.2: the first candidate that refutes a claim, in view of the conditions and the precision.
func TestRefute(t *testing.T) {
	for _, c := range []struct {
		claim string
		prec  int
		want  string
	}{
		{"x^2 > 0 for x in [-1, 1]", 4, "[x=0]"},
		{"x^2 >= 0 for x in [-1, 1]", 4, ""},
		{"x > 0 for x in [0, 1]", 4, "[x=0]"},
		{"x >= 0 for x in [0, 1]", 4, ""},
		{"x < 1 for x in [0, 1]", 4, "[x=1]"},
		{"x < 1 for x in [0, 2]", 4, "[x=1]"},
		{"x <= 1 for x in [0, 2]", 4, "[x=2]"},
		{"1 < 0", 4, "[]"},
		{"0 > 0", 4, "[]"},
		{"0 >= 0", 4, ""},
		{"x > 5 for x in [0, 2]", 4, "[x=1]"},
		{"x > 5 for x in [0, 2] where (x - 1)^2 > 0", 4, "[x=0]"},
		{"x > 5 for x in [0, 2] where x > 1", 4, "[x=2]"},
		{"x > 5 for x in [0, 2] where x > 1, x < 2", 4, ""},
		{"x > 5 for x in [0, 2] where 1 / x >= 0", 4, "[x=1]"},
		{"x > 5 for x in [0, 2] where 1 / (x - 1) >= 0", 4, "[x=2]"},
		{"1 / x > 5 for x in [-1, 1]", 4, "[x=-1]"},
		{"log(x) > 5 for x in [-1, 1]", 4, "[x=1]"},
		{"x * y < 1 for x in [0, 1], y in [0, 1]", 4, "[x=1, y=1]"},
		{"x - y < 1 for x in [0, 1], y in [0, 1]", 4, "[x=1, y=0]"},
		{"y - x < 1 for x in [0, 1], y in [0, 1]", 4, "[x=0, y=1]"},
		{"x * y < 1 for x in [0, 1], y in [0, inf)", 4, ""},
		{"x * y < 1/2 for x in [0, 1], y in [0, inf)", 4, "[x=1/2, y=1]"},
		{"x < 1/3 for x in [1/3, 1/3]", 4, ""},
		{"x < 1/4 for x in [1/3, 1/3]", 2, "[x=1/3]"},
		{"x <= 1/4 for x in [1/3, 1/3]", 3, ""},
		{"x <= 1/4 for x in [1/3, 1/3]", 4, "[x=1/3]"},
		{"sin(x) > 1/2 for x in (-inf, inf)", 8, "[x=0]"},
	} {
		for _, d := range []api.Claim{cl(c.claim), disguisedClaim(cl(c.claim))} {
			at, found, err := search.Refute(d, plan(1, c.prec, 0))
			got := ""
			if found {
				got = pointText(at)
			}
			if got != c.want || err != api.OK || !found && len(at) > 0 {
				t.Errorf("Refute(%s, %d): %s, %v, error %d; want %s", c.claim, c.prec, pointText(at), found, err, c.want)
			}
		}
	}
}
