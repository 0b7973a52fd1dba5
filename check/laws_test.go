package check_test

import (
	"slices"
	"testing"

	"inequality/api"
	"inequality/check"
	"inequality/claim"
	"inequality/expr"
	"inequality/number"
)

// soundAt checks a proved claim at a point, and reports whether the point is in the region.
func soundAt(t *testing.T, c api.Claim, s api.Step, at []api.Value, p int) bool {
	t.Helper()
	member, err := claim.Member(c, at, p)
	if err != api.OK || member != 1 {
		return false
	}
	for _, q := range []int{0, p, 60} {
		if refutes, _ := claim.Refutes(c, at, q); refutes {
			t.Errorf("%v refutes %s, proved by\n%s", at, text(c), lines(s, 0))
		}
	}
	if v, ok, _ := expr.Value(c.Goal, at); ok {
		if sign, _ := number.Sign(v); sign < 0 || sign == 0 && c.Strict {
			t.Errorf("%s is proved by\n%sbut its goal has the sign %d at %v", text(c), lines(s, 0), sign, at)
		}
	}
	return true
}

// P7.9: no point refutes a claim with a proof that is right, whatever rules it uses. P7.10: then Apply is OK for each step.
func TestSoundness(t *testing.T) {
	used := map[int]int{}
	proved, points := 0, 0
	sources(31, 400, func(s source) {
		c := s.claim()
		proof, ok := s.prove(c, 4)
		if !ok {
			return
		}
		proved++
		rulesOf(proof, used)
		steps, _ := count(proof)
		if v := check.Check(lemmas(), c, proof); v.Err != api.OK || v.Steps != steps {
			t.Errorf("Check(%s): error %d at %v after %d:\n%s", text(c), v.Err, v.Path, v.Steps, lines(proof, 0))
		}
		for range 12 {
			if soundAt(t, c, proof, s.point(c.Box), s.Intn(30)) {
				points++
			}
		}
	})
	if proved < 300 || points < 1000 {
		t.Errorf("only %d claims are proved and %d points looked at", proved, points)
	}
	for rule, f := range forms {
		if used[rule] == 0 && rule != api.RuleFar {
			t.Errorf("no proof uses %s", f.name)
		}
	}
}

// P7.9: claims of which something is wrong are not proved by a step without kids, at any place.
func TestSoundLeaves(t *testing.T) {
	applied := map[int]int{}
	sources(41, 1500, func(s source) {
		c := s.claim()
		for range 8 {
			step := s.step(c)
			if len(step.Kids) > 0 {
				continue
			}
			if _, err := check.Apply(nil, c, step); err != api.OK {
				continue
			}
			applied[step.Rule]++
			for range 6 {
				soundAt(t, c, step, s.point(c.Box), 20)
			}
		}
	})
	for rule, f := range forms {
		if f.kids == 0 && applied[rule] < 5 {
			t.Errorf("%s applies %d times", f.name, applied[rule])
		}
	}
}

// P7.9: claims in the variable of the rule far, which random steps do not find.
func TestSoundFar(t *testing.T) {
	for claim, proof := range map[string]string{
		"1 / x - log(1 + 1 / x) >= 0 for x in [1, inf)": "0 far x 0 {x - log(1 + x)} 8\n1 rise x 8\n2 range 8",
		"x^3 - x - 1 > 0 for x in [2, inf)":             "0 far x 3 {1 - x^2 - x^3} 8\n1 fall x 8\n2 range 8",
		"x^2 + 3 > 2 * x for x in [1/3, inf)":           "0 far x 2 {1 + 3 * x^2 - 2 * x} 8\n1 cut x 1/2\n2 mean 8\n2 rise x 8\n3 range 8",
		"x + y > 1 for x in [2, inf), y in [-1/2, inf)": "0 far x 1 {1 + y * x - x} 8\n1 rise y 8\n2 fall x 8\n3 range 8",
	} {
		c, s := cl(claim), pf(proof)
		if v := check.Check(nil, c, s); v.Err != api.OK {
			t.Errorf("%s: error %d at %v", claim, v.Err, v.Path)
		}
		for _, at := range []string{"2", "5/2", "7", "1000", "2^70"} {
			point := []api.Value{{Name: "x", Num: rat(at)}, {Name: "y", Num: rat("-1/2")}}[:len(c.Box)]
			if !soundAt(t, c, s, point, 20) {
				t.Errorf("%s is not in the region of %s", at, claim)
			}
		}
	}
}

// P7.10: a proof of the claim of a step may be put in the place of that step.
func TestLocality(t *testing.T) {
	grafts, wrong := 0, 0
	sources(51, 120, func(s source) {
		c := s.claim()
		proof, ok := s.prove(c, 3)
		if !ok {
			return
		}
		whole, leaves := 0, []api.Claim(nil)
		for _, path := range places(proof) {
			d := claimAt(t, c, proof, path)
			other, ok := s.prove(d, 2)
			if !ok {
				continue
			}
			got, ok := check.Graft(proof, path, other)
			if !ok || check.Shape(got) != api.OK {
				t.Errorf("no graft at %v", path)
			}
			if v := check.Check(lemmas(), c, got); v.Err != api.OK {
				t.Errorf("Check(%s): error %d at %v:\n%s", text(c), v.Err, v.Path, lines(got, 0))
			}
			grafts++
			// a step that does not prove the claim of its place makes the whole wrong, and no other one does
			_, err := check.Apply(lemmas(), d, st("range 3"))
			got, _ = check.Graft(proof, path, st("range 3"))
			if v := check.Check(lemmas(), c, got); v.Err != err || err != api.OK && !slices.Equal(v.Path, path) {
				t.Errorf("Check(%s): error %d at %v, want %d at %v", text(c), v.Err, v.Path, err, path)
			}
			if err != api.OK {
				wrong++
			}
			if step, _ := check.Pick(proof, path); len(step.Kids) == 0 {
				whole++
				leaves = append(leaves, d)
			}
		}
		if list, err := check.Leaves(lemmas(), c, proof); err != api.OK || len(list) < whole {
			t.Errorf("Leaves(%s): %d, error %d", text(c), len(list), err)
		} else if whole == len(list) && !slices.Equal(texts(list), texts(leaves)) {
			t.Errorf("Leaves(%s): %q, want %q", text(c), texts(list), texts(leaves))
		}
	})
	if grafts < 200 || wrong < 20 {
		t.Errorf("only %d grafts, %d wrong ones", grafts, wrong)
	}
}

// claimAt returns the claim that belongs to the step at a path.
func claimAt(t *testing.T, c api.Claim, s api.Step, path []int) api.Claim {
	t.Helper()
	for _, i := range path {
		claims, err := check.Apply(lemmas(), c, s)
		if err != api.OK {
			t.Fatalf("Apply(%s): error %d", text(c), err)
		}
		c, s = claims[i], s.Kids[i]
	}
	return c
}

// P7.12: entries that Uses does not name do not matter, nor do later ones with the same key; without those that it names, the proof is wrong.
func TestLibraries(t *testing.T) {
	for claim, proof := range proofs() {
		c, s := cl(claim), pf(proof)
		keys := check.Uses(s)
		var least []api.Entry
		for _, e := range library() {
			if slices.Contains(keys, api.Key{Name: e.Name, Ver: e.Ver}) {
				least = append(least, e)
			}
		}
		more := []api.Entry{entry("bern", 3, "0 > 1"), entry("bern", 0, "0 > 1"), {}}
		more = append(more, least...)
		more = append(more, entry("bern", 1, "0 > 1"), entry("bern", 2, "0 > 1"), api.Entry{Name: "bern", Ver: 1})
		slices.Reverse(least)
		for _, lib := range [][]api.Entry{least, more, library()} {
			if v := check.Check(lib, c, s); v.Err != api.OK {
				t.Errorf("Check(%s): error %d at %v", claim, v.Err, v.Path)
			}
		}
		for i := range least {
			rest := append(slices.Clone(least[:i]), least[i+1:]...)
			if v := check.Check(rest, c, s); v.Err != api.ErrLemma {
				t.Errorf("Check(%s) without an entry: error %d at %v", claim, v.Err, v.Path)
			}
		}
	}
}

// The examples of the chapter.
func TestExamples(t *testing.T) {
	fails(t, "x^2 - x + 1 > 0 for x in [0, 1]", "range 4")
	applies(t, "x^2 - x + 1 > 0 for x in [0, 1]", "mean 4")
	applies(t, "exp(x) - (1 + x) >= 0 for x in [-1, 1]", "zero [x=0] 8")
	applies(t, "x - sin(x) >= 0 for x in [0, inf)", "rise x 8", "0 - sin(0) >= 0")
	applies(t, "0 - sin(0) >= 0", "range 8")
	applies(t, "1 / x - log(1 + 1 / x) >= 0 for x in [1, inf)", "far x 0 {x - log(1 + x)} 8", "x - log(1 + x) >= 0 for x in [0, 1]")
	applies(t, "x - log(1 + x) >= 0 for x in [0, 1]", "rise x 8", "0 - log(1 + 0) >= 0")
	applies(t, "0 - log(1 + 0) >= 0", "range 8")
	s := api.Step{Rule: api.RuleRise, Name: "x", Prec: 8, Kids: []api.Step{{Rule: api.RuleRange, Prec: 8}}}
	expectPrint(t, s, "0 rise x 8\n1 range 8\n", api.OK)
	if got, at, err := check.Parse("0 rise x 8\n1 range 8\n"); !identical(got, s) || at != 0 || err != api.OK {
		t.Errorf("Parse: error %d at %d", err, at)
	}
}
