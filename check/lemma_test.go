package check_test

import (
	"slices"
	"strings"
	"testing"

	"inequality/api"
	"inequality/check"
)

// entry returns an entry of a library.
func entry(name string, ver int, claim string) api.Entry {
	return api.Entry{Name: name, Ver: ver, Claim: cl(claim)}
}

// instance checks a step with the rule lemma for a claim and a library with one entry m 1.
func instance(t *testing.T, lemma, claim, step string, want ...string) {
	t.Helper()
	wantErr := api.OK
	if len(want) == 0 {
		wantErr = api.ErrProof
	}
	e := entry("m", 1, lemma)
	expectApply(t, []api.Entry{e}, cl(claim), st(step), want, wantErr)
	e.Claim = disguisedClaim(e.Claim)
	expectApply(t, []api.Entry{e}, cl(claim), st(step), want, wantErr)
}

// P7.4, 20: the binds of a lemma.
func TestLemmaBinds(t *testing.T) {
	exp := "exp(x) >= 1 + x for x in [-1, 1]"
	c := "y > 0 for y in [0, 1], z in [0, 1] where y - z > 0"
	instance(t, exp, c, "lemma m 1 [x={y}] 8", c+", exp(y) - (1 + y) >= 0")
	instance(t, exp, c, "lemma m 1 [x={y - z}] 8", c+", exp(y - z) - (1 + (y - z)) >= 0")
	instance(t, exp, c, "lemma m 1 [x={1}] 8", c+", exp(1) - (1 + 1) >= 0")
	instance(t, exp, c, "lemma m 1 [x={y}] 0", c+", exp(y) - (1 + y) >= 0")
	for _, args := range []string{"[]", "[y={y}]", "[x={y}, x={y}]", "[x={y}, y={y}]", "[x={x}]", "[x={w}]", "[x={y + z}]", "[x={y + 1/1000}]", "[x={log(y)}]", "[x={1 / z}]", "[X={y}]"} {
		instance(t, exp, c, "lemma m 1 "+args+" 8")
	}
	instance(t, exp, c, "lemma m 1 [x={y}] -1")
	instance(t, exp, c, "lemma m 1 [x={y}] 129")
	// strict lemmas, lemmas of all of a line, and bounds that are not on the grid
	instance(t, "x > 0 for x in (-inf, inf)", c, "lemma m 1 [x={1000 * y - 5}] 8", c+", 1000 * y - 5 > 0")
	instance(t, "x > 0 for x in [0, inf)", c, "lemma m 1 [x={y}] 8", c+", y > 0")
	instance(t, "x > 0 for x in (-inf, 1]", c, "lemma m 1 [x={y}] 8", c+", y > 0")
	instance(t, "x > 0 for x in [0, 1]", "1 > 0 for y in [1/3, 2/3]", "lemma m 1 [x={y}] 2", "1 > 0 for y in [1/3, 2/3] where y > 0")
	instance(t, "x > 0 for x in [1/3, 2/3]", "1 > 0 for y in [1/3, 2/3]", "lemma m 1 [x={y}] 128")
	// several sides: in their order, all replaced at the same time
	two := "x - y >= 0 for x in [0, 1], y in [0, 2]"
	instance(t, two, "1 > 0 for x in [0, 1], y in [0, 1]", "lemma m 1 [x={y}, y={x}] 8", "1 > 0 for x in [0, 1], y in [0, 1] where y - x >= 0")
	instance(t, two, "1 > 0 for x in [0, 1], y in [0, 1]", "lemma m 1 [x={y}, y={x + y}] 8", "1 > 0 for x in [0, 1], y in [0, 1] where y - (x + y) >= 0")
	for _, args := range []string{"[y={x}, x={y}]", "[x={x}]", "[y={x}]", "[x={x + y}, y={x}]", "[x={x}, y={x + y}, z={x}]", "[x={x}, y={x + y + 1}]"} {
		instance(t, two, "1 > 0 for x in [0, 1], y in [0, 1]", "lemma m 1 "+args+" 8")
	}
	six := " for a in [0, 1], b in [0, 1], c in [0, 1], d in [0, 1], e in [0, 1], f in [0, 1]"
	instance(t, "a + b + c + d + e + f >= 0"+six, "1 > 0 for x in [0, 1]", "lemma m 1 [a={x}, b={1}, c={x^2}, d={0}, e={x}, f={x}] 8", "1 > 0 for x in [0, 1] where x + 1 + x^2 + 0 + x + x >= 0")
	// no sides: the precision counts all the same
	instance(t, "3 > 2", c, "lemma m 1 [] 0", c+", 3 - 2 > 0")
	instance(t, "3 > 2", c, "lemma m 1 [] 128", c+", 3 - 2 > 0")
	instance(t, "3 > 2", c, "lemma m 1 [] -1")
	instance(t, "3 > 2", c, "lemma m 1 [] 129")
	instance(t, "3 > 2", c, "lemma m 1 [x={y}] 8")
}

// P7.4, 20: the conditions of a lemma, and limits.
func TestLemmaConds(t *testing.T) {
	in := " for x in [0, 1], y in [0, 1]"
	c := "1 > 0 for y in [0, 1], z in [0, 1] where "
	step := "lemma m 1 [x={y}, y={z}] 8"
	new := ", z - y > 0"
	for _, d := range []struct {
		lemma, conds string
		want         bool
	}{
		{"x > 0", "y > 0", true}, {"x >= 0", "y > 0", true}, {"x >= 0", "y >= 0", true}, {"x > 0", "y >= 0", false}, {"x > 0", "y >= 0, y > 0", true}, {"x > 0", "z > 0", false}, {"y > 0", "y > 0", false}, {"y > 0", "z > 0", true},
		{"x > 0, y > 0", "y > 0, z > 0", true}, {"x > 0, y > 0", "z > 0, 1 > 0, y > 0", true}, {"x > 0, y > 0", "y > 0", false}, {"x > 0, y > 0", "z > 0", false}, {"x > 0, x >= 0, x > 0", "y > 0", true},
		{"x + y > 0", "y + z > 0", true}, {"x + y > 0", "z + y > 0", false}, {"x - 1/2 > 0", "y - 2/4 > 0", true}, {"x - 1/2 > 0", "y - 1/3 > 0", false}, {"1 > 0", "y > 0", false}, {"1 > 0", "1 > 0", true}, {"log(x) > 0", "log(y) > 0", true},
	} {
		if d.want {
			instance(t, "y > x"+in+" where "+d.lemma, c+d.conds, step, c+text(cl("1 > 0 for y in [0, 1], z in [0, 1] where " + d.conds))[len(c):]+new)
		} else {
			instance(t, "y > x"+in+" where "+d.lemma, c+d.conds, step)
		}
	}
	instance(t, "y > x"+in+" where x > 0", "1 > 0 for y in [0, 1], z in [0, 1]", step)
	full := "y > 0" + strings.Repeat(", y > 0", 11)
	instance(t, "y > x"+in+" where x > 0", c+full[7:], step, c+full[7:]+new)
	instance(t, "y > x"+in+" where x > 0", c+full, step)
	// the goal or a condition of the lemma becomes too large or too deep
	one := "1 > 0 for y in [0, 1] where y > 0"
	instance(t, towerText(29, "x")+" > 0 for x in [-1, 1]", one, "lemma m 1 [x={-y}] 8", one+", "+towerText(30, "y")+" > 0")
	instance(t, towerText(29, "x")+" > 0 for x in [-1, 1]", one, "lemma m 1 [x={--y}] 8")
	instance(t, "1 > 0 for x in [-1, 1] where "+towerText(29, "x")+" > 0", one, "lemma m 1 [x={--y}] 8")
	instance(t, "1 > 0 for x in [-1, 1] where "+fillerText(299, "x")+" > 0", one, "lemma m 1 [x={-y}] 8")
}

// P7.4: the entry that a step names: the first one with its name and version.
func TestLemmaEntries(t *testing.T) {
	c := cl("1 > 0")
	bad := api.Entry{Name: "bad", Ver: 1, Claim: api.Claim{Goal: ex("x")}}
	lib := []api.Entry{entry("a", 1, "2 > 0"), entry("a", 2, "3 > 0"), entry("b", 1, "4 > 0"), entry("a", 1, "5 > 0"), bad, entry("bad", 1, "6 > 0"), entry("b", -1, "7 > 0"), entry("", 0, "8 > 0"), entry("b", 3, "9 > 0"), {Name: "b", Ver: 3}}
	for step, want := range map[string]string{
		"a 1": "2 > 0", "a 2": "3 > 0", "b 1": "4 > 0", "b -1": "7 > 0", " 0": "8 > 0", "b 3": "9 > 0", "bad 1": "", "a 3": "", "a 0": "", "c 1": "", "A 1": "", "b 2": "", "a -1": "",
	} {
		name, ver, _ := strings.Cut(step, " ")
		s := st("lemma m 1 [] 8")
		s.Entry, s.Ver = name, whole(ver)
		if want == "" {
			expectApply(t, lib, c, s, nil, api.ErrLemma)
		} else {
			expectApply(t, lib, c, s, []string{"1 > 0 where " + want}, api.OK)
		}
		expectApply(t, nil, c, s, nil, api.ErrLemma)
	}
	for _, d := range badClaims() {
		expectApply(t, []api.Entry{{Name: "m", Ver: 1, Claim: d}}, c, st("lemma m 1 [] 8"), nil, api.ErrLemma)
	}
}

// P7.4: of several errors, the first one in the order of the promise is returned.
func TestApplyErrors(t *testing.T) {
	libs := map[bool][]api.Entry{true: {{Name: "m", Ver: 2}}, false: {entry("m", 1, "1 > 0 for x in [0, 1]")}}
	for bits := range 16 {
		noClaim, noRule, noLemma, noProof := bits&1 > 0, bits&2 > 0, bits&4 > 0, bits&8 > 0
		c, s, want := cl("1 > 0"), st("lemma m 1 [x={1/2}] 8"), api.OK
		if noProof {
			s.Args[0].E, want = ex("2"), api.ErrProof
		}
		if noLemma {
			want = api.ErrLemma
		}
		if noRule {
			s.K, want = 1, api.ErrRule
		}
		if noClaim {
			c, want = badClaims()[bits%2+1], api.ErrClaim
		}
		list, err := check.Apply(libs[noLemma], c, s)
		if err != want || err != api.OK && len(list) > 0 {
			t.Errorf("Apply with %04b: error %d, want %d", bits, err, want)
		}
	}
	good := cl("x^2 >= 0 for x in [-1, 1] where x > 0")
	for _, c := range badClaims() {
		for _, s := range append(fullSteps(), api.Step{}) {
			if list, err := check.Apply(nil, c, s); len(list) > 0 || err != api.ErrClaim {
				t.Errorf("Apply of an invalid claim: error %d", err)
			}
		}
	}
	for _, full := range fullSteps() {
		for _, field := range allFields {
			for _, value := range nonzeroes()[field] {
				if uses(full.Rule, field) {
					continue
				}
				if list, err := check.Apply(nil, good, merge(full, value, field)); len(list) > 0 || err != api.ErrRule {
					t.Errorf("Apply of %s with %s: error %d", forms[full.Rule].name, field, err)
				}
			}
		}
		for n := range 4 {
			s := full
			s.Kids = make([]api.Step, n)
			if _, err := check.Apply(nil, good, s); (err == api.ErrRule) != (n != forms[full.Rule].kids) {
				t.Errorf("Apply of %s with %d kids: error %d", forms[full.Rule].name, n, err)
			}
		}
	}
	for _, s := range []api.Step{{}, {Rule: 22}, {Rule: -1}, {Rule: api.RuleCut, Name: "x", At: rat("2^2048"), Kids: make([]api.Step, 2)}, {Rule: api.RuleVia, Kids: make([]api.Step, 2)}, {Rule: api.RuleZero, Point: make([]api.Value, 7)}, {Rule: api.RuleSame, E: endlessExpr(), Kids: make([]api.Step, 1)}, {Rule: api.RuleLemma, Args: []api.Bind{{}}, Kids: make([]api.Step, 1)}} {
		if list, err := check.Apply(nil, good, s); len(list) > 0 || err != api.ErrRule {
			t.Errorf("Apply of an ill-formed step: error %d", err)
		}
	}
}

// P7.4: no error but those of the promise leaves Apply, and ErrLemma belongs to the rule lemma alone.
func TestApplyKinds(t *testing.T) {
	sources(7, 400, func(s source) {
		c := s.claim()
		step := s.step(c)
		list, err := check.Apply(nil, c, step)
		known := err == api.OK || err == api.ErrRule || err == api.ErrProof || err == api.ErrLemma && step.Rule == api.RuleLemma
		if !known || err == api.OK && len(list) != forms[step.Rule].kids || err != api.OK && len(list) > 0 {
			t.Errorf("Apply(%s, %s): %d claims, error %d", text(c), describe(step), len(list), err)
		}
		if err == api.OK && slices.ContainsFunc(list, func(d api.Claim) bool { return !valid(d) }) {
			t.Errorf("Apply(%s, %s): a claim of a kid is not valid", text(c), describe(step))
		}
	})
}
