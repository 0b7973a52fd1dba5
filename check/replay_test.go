package check_test

import (
	"slices"
	"testing"

	"inequality/api"
	"inequality/check"
	"inequality/number"
)

// library is the library of the tests of Check.
func library() []api.Entry {
	return []api.Entry{entry("bern", 1, "exp(x) >= 1 + x for x in [-1, 1]"), entry("bern", 2, "exp(x) > x for x in [-2, 2]"), {Name: "bad", Ver: 1}}
}

// proofs are claims and right proofs of them.
func proofs() map[string]string {
	return map[string]string{
		"x^2 - x + 1 > 0 for x in [0, 1]":                                 "0 mean 4",
		"exp(x) >= 1 + x for x in [-1, 1]":                                "0 zero [x=0] 8",
		"x - sin(x) >= 0 for x in [0, inf)":                               "0 rise x 8\n1 range 8",
		"1 / x - log(1 + 1 / x) >= 0 for x in [1, inf)":                   "0 far x 0 {x - log(1 + x)} 8\n1 rise x 8\n2 range 8",
		"abs(x) + abs(y) + 1 >= max(x, y) for x in [-1, 1], y in [-1, 1]": "0 range 4",
		"1 > 2 for x in [0, 4] where x > 5":                               "0 empty 0 4",
		"x - x^2 >= 0 for x in [0, 1]":                                    "0 cut x 1/2\n 1 cut x 1/4\n  2 cave x 6\n   3 range 6\n   3 range 6\n  2 mean 6\n 1 cave x 6\n  2 range 6\n  2 range 6",
		"abs(x) + x >= 0 for x in [-2, 2], y in [0, 1]":                   "0 branch 4\n 1 narrow x 0 4 4\n  2 cut x -1/2\n   3 empty 0 4\n   3 add 0 2\n    4 linear 4\n 1 cut y 1/2\n  2 linear 4\n  2 same {0 * y} 4\n   3 range 4",
		"sin(x) + y > 0 for x in (-inf, inf), y in [2, 3]":                "0 turn x 0\n1 rise y 4\n2 cut x 3\n3 range 4\n3 cut x 5\n4 range 4\n4 range 4",
		"y * exp(x) >= y for x in [0, 1], y in [0, 1]":                    "0 lemma bern 1 [x={x}] 8\n1 add 0 0\n2 same {y * (exp(x) - 1)} 8\n3 rise y 8\n4 range 8",
		"x * y - x > 0 for x in [1, 2], y in [2, 3]":                      "0 via {x / 2}\n1 scale {1 / x}\n2 range 8\n2 same {y - 3/2} 8\n3 range 8\n1 scale {2}\n2 range 8\n2 rise x 4\n3 lemma bern 2 [x={1}] 8\n4 range 8",
	}
}

// model returns what Check and Leaves have to return, for a right shape, from Apply alone.
func model(lib []api.Entry, c api.Claim, s api.Step, path []int) (api.Verdict, []api.Claim) {
	claims, err := check.Apply(lib, c, s)
	if err != api.OK {
		return api.Verdict{Err: err, Path: path}, nil
	}
	v := api.Verdict{Steps: 1}
	var leaves []api.Claim
	if len(s.Kids) == 0 {
		leaves = []api.Claim{c}
	}
	for i, kid := range s.Kids {
		below, more := model(lib, claims[i], kid, append(slices.Clone(path), i))
		v.Steps += below.Steps
		if below.Err != api.OK {
			return api.Verdict{Err: below.Err, Path: below.Path, Steps: v.Steps}, nil
		}
		leaves = append(leaves, more...)
	}
	return v, leaves
}

// expectCheck checks Check and Leaves.
func expectCheck(t *testing.T, lib []api.Entry, c api.Claim, s api.Step, want api.Verdict, leaves []api.Claim) {
	t.Helper()
	for _, d := range []api.Claim{c, disguisedClaim(c)} {
		for _, u := range []api.Step{s, disguisedStep(s)} {
			got := check.Check(lib, d, u)
			if got.Err != want.Err || !slices.Equal(got.Path, want.Path) || got.Steps != want.Steps {
				t.Errorf("Check(%s): error %d at %v after %d; want error %d at %v after %d", text(c), got.Err, got.Path, got.Steps, want.Err, want.Path, want.Steps)
			}
			list, err := check.Leaves(lib, d, u)
			if err != want.Err || !slices.Equal(texts(list), texts(leaves)) {
				t.Errorf("Leaves(%s): %q, error %d; want %q, error %d", text(c), texts(list), err, texts(leaves), want.Err)
			}
		}
	}
}

// P7.5, P7.6: right proofs, of all rules.
func TestCheckRight(t *testing.T) {
	rules := map[int]int{}
	for claim, proof := range proofs() {
		c, s := cl(claim), pf(proof)
		steps, _ := count(s)
		want, leaves := model(library(), c, s, nil)
		if want.Err != api.OK || want.Steps != steps {
			t.Errorf("%s is not proved: error %d at %v after %d", claim, want.Err, want.Path, want.Steps)
		}
		expectCheck(t, library(), c, s, api.Verdict{Steps: steps}, leaves)
		rulesOf(s, rules)
	}
	for rule := range forms {
		if rules[rule] == 0 && !slices.Contains([]int{api.RuleTaylor, api.RuleFall, api.RuleSwap, api.RuleLead}, rule) {
			t.Errorf("%s is not in any proof", forms[rule].name)
		}
	}
}

// P7.6: Leaves in the order of the visit.
func TestLeaves(t *testing.T) {
	for claim, want := range map[string][]string{
		"x^2 - x + 1 > 0 for x in [0, 1]":                  {"x^2 - x + 1 > 0 for x in [0, 1]"},
		"x - x^2 >= 0 for x in [0, 1]":                     {"0 - 0^2 >= 0", "1/4 - 1/4^2 >= 0", "x - x^2 >= 0 for x in [1/4, 1/2]", "1/2 - 1/2^2 >= 0", "1 - 1^2 >= 0"},
		"sin(x) + y > 0 for x in (-inf, inf), y in [2, 3]": {"sin(x) + 2 > 0 for x in [0, 3]", "sin(x) + 2 > 0 for x in [3, 5]", "sin(x) + 2 > 0 for x in [5, 7]"},
	} {
		got, err := check.Leaves(library(), cl(claim), pf(proofs()[claim]))
		if err != api.OK || !slices.Equal(texts(got), want) {
			t.Errorf("Leaves of %s: %q, error %d; want %q", claim, texts(got), err, want)
		}
	}
}

// P7.5, P7.6: proofs with one wrong step, at every place, and of every kind of error.
func TestCheckWrong(t *testing.T) {
	wrong := map[string]struct {
		s    api.Step
		err  api.Errno
		kids int
	}{
		"range": {st("range 200"), api.ErrProof, 0}, "turn": {st("turn q 0"), api.ErrProof, 1}, "cut": {st("cut q 0"), api.ErrProof, 2}, "no entry": {st("lemma bern 3 [x={x}] 8"), api.ErrLemma, 1}, "a bad entry": {st("lemma bad 1 [x={x}] 8"), api.ErrLemma, 1}, "lemma": {st("lemma bern 1 [x={2}] 8"), api.ErrProof, 1},
	}
	for claim, proof := range proofs() {
		c, s := cl(claim), pf(proof)
		for n, path := range places(s) {
			old, _ := check.Pick(s, path)
			for what, w := range wrong {
				if len(old.Kids) != w.kids {
					continue
				}
				w.s.Kids = old.Kids
				bad, ok := check.Graft(s, path, w.s)
				if !ok {
					t.Fatalf("no place at %v", path)
				}
				if verdict, _ := model(library(), c, bad, nil); verdict.Err != w.err || verdict.Steps != n || !slices.Equal(verdict.Path, path) {
					t.Errorf("%s with %s at %v: the model has error %d at %v after %d", claim, what, path, verdict.Err, verdict.Path, verdict.Steps)
				}
				expectCheck(t, library(), c, bad, api.Verdict{Err: w.err, Path: path, Steps: n}, nil)
			}
			// an ill-formed step anywhere counts ahead of all others
			bad, _ := check.Graft(s, path, api.Step{Rule: 22})
			expectCheck(t, library(), c, bad, api.Verdict{Err: api.ErrRule}, nil)
			expectCheck(t, library(), c, st("turn q 0", bad), api.Verdict{Err: api.ErrRule}, nil)
		}
	}
}

// P7.5: the first of two wrong steps in the order of the visit counts.
func TestCheckFirst(t *testing.T) {
	claim := "x - x^2 >= 0 for x in [0, 1]"
	c, s := cl(claim), pf(proofs()[claim])
	list := places(s)
	for i, first := range list {
		for _, second := range list[i+1:] {
			bad := s
			for _, path := range [][]int{second, first} {
				old, _ := check.Pick(bad, path)
				old.Prec = 200
				if old.Rule == api.RuleCut {
					old.Prec, old.At = 0, rat("7")
				}
				bad, _ = check.Graft(bad, path, old)
			}
			expectCheck(t, nil, c, bad, api.Verdict{Err: api.ErrProof, Path: first, Steps: i}, nil)
		}
	}
}

// P7.5, P7.6: the errors that do not belong to a step.
func TestCheckErrors(t *testing.T) {
	good := cl("x > 0 for x in [1, 2] where x > 0")
	for _, c := range badClaims() {
		for _, s := range []api.Step{st("range 8"), {}, endless(2), chain(42), bush(2001)} {
			expectBare(t, c, s, api.ErrClaim)
		}
	}
	for what, c := range map[string]struct {
		s    api.Step
		want api.Errno
	}{
		"the zero step": {api.Step{}, api.ErrRule}, "a field too many": {api.Step{Rule: api.RuleRange, K: 1}, api.ErrRule}, "a kid too many": {api.Step{Rule: api.RuleRange, Kids: make([]api.Step, 1)}, api.ErrRule}, "a kid too few": {api.Step{Rule: api.RuleCut, Name: "x", At: rat("3/2"), Kids: []api.Step{st("range 8")}}, api.ErrRule}, "a bad kid": {st("cut x 3/2"), api.ErrRule},
		"endless": {endless(1), api.ErrLimit}, "too deep": {chain(42), api.ErrLimit}, "too large": {bush(2001), api.ErrLimit}, "too large and ill-formed": {api.Step{Kids: make([]api.Step, 2000)}, api.ErrLimit}, "ill-formed and wrong": {st("cut x 9", st("range 8"), api.Step{}), api.ErrRule},
	} {
		if got := check.Shape(c.s); got != c.want {
			t.Errorf("Shape of %s: %d", what, got)
		}
		expectBare(t, good, c.s, c.want)
	}
}

// expectBare checks that Check and Leaves return an error alone.
func expectBare(t *testing.T, c api.Claim, s api.Step, want api.Errno) {
	t.Helper()
	if got := check.Check(nil, c, s); got.Err != want || len(got.Path) > 0 || got.Steps != 0 {
		t.Errorf("Check: error %d at %v after %d, want %d", got.Err, got.Path, got.Steps, want)
	}
	if list, err := check.Leaves(nil, c, s); err != want || len(list) > 0 {
		t.Errorf("Leaves: %d claims, error %d, want %d", len(list), err, want)
	}
}

// P7.5: proofs with as many steps, and as deep, as there may be.
func TestCheckLimits(t *testing.T) {
	c := cl("sin(x) + 2 > 0 for x in [-1, 1]")
	var halves func(steps int, low, high string) api.Step
	halves = func(steps int, low, high string) api.Step {
		if steps == 1 {
			return st("range 4")
		}
		left := (steps - 1) / 2
		if left%2 == 0 {
			left--
		}
		at, _ := number.Middle(rat(low), rat(high))
		middle := get(api.Step{At: at}, "At")
		return st("cut x "+middle, halves(left, low, middle), halves(steps-1-left, middle, high))
	}
	s := st("same {sin(x) + 2} 4", halves(1999, "-1", "1"))
	if got := check.Check(nil, c, s); got.Err != api.OK || got.Steps != 2000 || len(got.Path) > 0 {
		t.Errorf("Check of 2000 steps: error %d after %d", got.Err, got.Steps)
	}
	if list, err := check.Leaves(nil, c, s); len(list) != 1000 || err != api.OK {
		t.Errorf("Leaves of 2000 steps: %d, error %d", len(list), err)
	}
	deep := st("range 4")
	for range 40 {
		deep = st("same {sin(x) + 2} 4", deep)
	}
	if got := check.Check(nil, c, deep); got.Err != api.OK || got.Steps != 41 {
		t.Errorf("Check of 41 levels: error %d after %d", got.Err, got.Steps)
	}
	path := make([]int, 40)
	bad, _ := check.Graft(deep, path, st("range 129"))
	if got := check.Check(nil, c, bad); got.Err != api.ErrProof || got.Steps != 40 || !slices.Equal(got.Path, path) {
		t.Errorf("Check of a wrong step at level 40: error %d after %d", got.Err, got.Steps)
	}
	expectBare(t, c, st("same {sin(x) + 2} 4", deep), api.ErrLimit)
	expectBare(t, c, st("same {sin(x) + 2} 4", s), api.ErrLimit)
}
