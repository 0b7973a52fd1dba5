package check_test

import (
	"math/rand"
	"strings"
	"testing"

	"inequality/api"
	"inequality/check"
)

// expectPrint checks Print of a step and of one equal to it.
func expectPrint(t *testing.T, s api.Step, want string, wantErr api.Errno) {
	t.Helper()
	for _, u := range []api.Step{s, disguisedStep(s)} {
		if got, err := check.Print(u); got != want || err != wantErr {
			t.Errorf("Print: %q, error %d; want %q, error %d", cut(got), err, cut(want), wantErr)
		}
	}
}

// P7.7: the text of each rule.
func TestPrint(t *testing.T) {
	zero := api.Step{Rule: api.RuleRange}
	kid := "\n1 range 0\n"
	e := ex("x - log(1 + x)^-2")
	for want, s := range map[string]api.Step{
		"0 range 0\n":                                    zero,
		"0 mean 128\n":                                   {Rule: api.RuleMean, Prec: 128},
		"0 taylor 1\n":                                   {Rule: api.RuleTaylor, Prec: 1},
		"0 linear 129\n":                                 {Rule: api.RuleLinear, Prec: 129},
		"0 empty 3 9223372036854775807\n":                {Rule: api.RuleEmpty, K: 3, Prec: 1<<63 - 1},
		"0 cut x -1/3" + kid + "1 range 0\n":             {Rule: api.RuleCut, Name: "x", At: rat("-1/3"), Kids: []api.Step{zero, zero}},
		"0 rise x1 8" + kid:                              {Rule: api.RuleRise, Name: "x1", Prec: 8, Kids: []api.Step{zero}},
		"0 fall y 7" + kid:                               {Rule: api.RuleFall, Name: "y", Prec: 7, Kids: []api.Step{zero}},
		"0 cave z 6" + kid + "1 range 0\n":               {Rule: api.RuleCave, Name: "z", Prec: 6, Kids: []api.Step{zero, zero}},
		"0 narrow x 1 2 3" + kid:                         {Rule: api.RuleNarrow, Name: "x", K: 1, N: 2, Prec: 3, Kids: []api.Step{zero}},
		"0 branch 5" + kid + "1 range 0\n":               {Rule: api.RuleBranch, Prec: 5, Kids: []api.Step{zero, zero}},
		"0 turn x 0" + kid:                               {Rule: api.RuleTurn, Name: "x", Kids: []api.Step{zero}},
		"0 swap y x 4" + kid:                             {Rule: api.RuleSwap, Name: "y", Other: "x", Prec: 4, Kids: []api.Step{zero}},
		"0 zero [] 4\n":                                  {Rule: api.RuleZero, Prec: 4},
		"0 zero [x=0] 8\n":                               {Rule: api.RuleZero, Point: []api.Value{{Name: "x"}}, Prec: 8},
		"0 zero [y=1/2, x=-3, y=4] 8\n":                  {Rule: api.RuleZero, Point: []api.Value{{Name: "y", Num: rat("1/2")}, {Name: "x", Num: rat("-3")}, {Name: "y", Num: rat("4")}}, Prec: 8},
		"0 lead x 5/2 9 4\n":                             {Rule: api.RuleLead, Name: "x", At: rat("5/2"), N: 9, Prec: 4},
		"0 same {x - log(1 + x)^-2} 4" + kid:             {Rule: api.RuleSame, E: e, Prec: 4, Kids: []api.Step{zero}},
		"0 via {0}" + kid + "1 range 0\n":                {Rule: api.RuleVia, E: ex("0"), Kids: []api.Step{zero, zero}},
		"0 scale {max(x, y)}" + kid + "1 range 0\n":      {Rule: api.RuleScale, E: ex("max(x,y)"), Kids: []api.Step{zero, zero}},
		"0 add 0 2" + kid:                                {Rule: api.RuleAdd, At: rat("2"), Kids: []api.Step{zero}},
		"0 lemma bern 12 [] 4" + kid:                     {Rule: api.RuleLemma, Entry: "bern", Ver: 12, Prec: 4, Kids: []api.Step{zero}},
		"0 lemma b 0 [y={x + 1}, x={max(x, y)}] 4" + kid: {Rule: api.RuleLemma, Entry: "b", Args: []api.Bind{{Name: "y", E: ex("x+1")}, {Name: "x", E: ex("max(x,y)")}}, Prec: 4, Kids: []api.Step{zero}},
		"0 far x 32 {x - log(1 + x)^-2} 4" + kid:         {Rule: api.RuleFar, Name: "x", N: 32, E: e, Prec: 4, Kids: []api.Step{zero}},
	} {
		expectPrint(t, s, want, api.OK)
	}
	for _, s := range fullSteps() {
		expectPrint(t, s, lines(s, 0), api.OK)
	}
}

// P7.7: the lines of trees, in the order of the visit, with depths of two digits.
func TestPrintTrees(t *testing.T) {
	for _, proof := range proofs() {
		var want strings.Builder
		for line := range strings.SplitSeq(proof, "\n") {
			want.WriteString(strings.TrimSpace(line) + "\n")
		}
		expectPrint(t, pf(proof), want.String(), api.OK)
	}
	expectPrint(t, chain(41), lines(chain(41), 0), api.OK)
	expectPrint(t, bush(1999), lines(bush(1999), 0), api.OK)
}

// P7.7: the errors of Print, at every place, and their order.
func TestPrintErrors(t *testing.T) {
	long := rat("1/" + strings.Repeat("7", 600))
	sum := api.Expr{Op: api.OpNum, Num: long}
	for range 7 { // the text of the sum has more than MaxText bytes
		sum = api.Expr{Op: api.OpAdd, Kids: []api.Expr{sum, {Op: api.OpNum, Num: long}}}
	}
	faults := map[api.Errno][]api.Step{
		api.ErrRule:  {{}, {Rule: api.RuleRange, K: 1}, {Rule: api.RuleVia, Kids: make([]api.Step, 2)}, {Rule: api.RuleZero, Point: make([]api.Value, 7)}},
		api.ErrLimit: {st("via {x}"), st("same {x} 2"), st("lemma m 1 [x={x}] 4"), st("lemma m 1 [x={x}, y={x}] 4")},
	}
	for i := range faults[api.ErrLimit] {
		s := &faults[api.ErrLimit][i]
		if s.Rule == api.RuleLemma {
			s.Args[len(s.Args)-1].E = sum
		} else {
			s.E = sum
		}
		for j := range s.Kids {
			s.Kids[j] = st("range 1")
		}
	}
	for _, full := range fullSteps() {
		for _, field := range []string{"K", "N", "Prec", "Ver"} {
			for _, n := range []int{-1, -1 << 63} {
				if uses(full.Rule, field) {
					faults[api.ErrArg] = append(faults[api.ErrArg], merge(full, api.Step{K: n, N: n, Prec: n, Ver: n}, field))
				}
			}
		}
		for _, name := range []string{"", "X", "exp", "in", "where", "x y", "abcdefghi", "x\n", " x", "1", "\xff", "x\x00"} {
			for _, field := range []string{"Name", "Other", "Entry"} {
				if uses(full.Rule, field) {
					faults[api.ErrArg] = append(faults[api.ErrArg], merge(full, api.Step{Name: name, Other: name, Entry: name}, field))
				}
			}
			if uses(full.Rule, "Point") {
				faults[api.ErrArg] = append(faults[api.ErrArg], merge(full, api.Step{Point: []api.Value{{Name: "x"}, {Name: name}}}, "Point"), merge(full, api.Step{Point: []api.Value{{Name: name}, {Name: "y"}}}, "Point"))
			}
			if uses(full.Rule, "Args") {
				faults[api.ErrArg] = append(faults[api.ErrArg], merge(full, api.Step{Args: []api.Bind{{Name: "x", E: ex("1")}, {Name: name, E: ex("1")}}}, "Args"))
			}
		}
	}
	for err, list := range faults {
		for _, s := range list {
			for _, whole := range []api.Step{s, st("turn x 0", s), st("cut x 0", s, st("range 1")), st("cut x 0", st("range 1"), st("turn x 0", s))} {
				expectPrint(t, whole, "", err)
			}
		}
	}
	// of several errors the kinds count, not the places
	order := []api.Errno{api.ErrRule, api.ErrArg, api.ErrLimit}
	for i, first := range order {
		for _, second := range order[i+1:] {
			for _, s := range faults[first][:3] {
				for _, u := range faults[second][:3] {
					expectPrint(t, st("cut x 0", s, u), "", first)
					expectPrint(t, st("cut x 0", u, s), "", first)
				}
			}
		}
	}
	for _, s := range []api.Step{endless(1), endless(2), chain(42), bush(2001), {Kids: make([]api.Step, 2000)}, st("turn x 0", st("turn X 0", chain(41)))} {
		if got, err := check.Print(s); got != "" || err != api.ErrLimit {
			t.Errorf("Print of a step that is too large: %q, error %d", cut(got), err)
		}
	}
}

// P7.11: Parse of Print returns an equal proof.
func TestPrintParse(t *testing.T) {
	r := rand.New(rand.NewSource(8))
	random := source{r, true}
	var list []api.Step
	for range 200 {
		s := bush(1 + 2*r.Intn(20))
		for _, path := range places(s) {
			if old, _ := check.Pick(s, path); len(old.Kids) == 0 {
				c := random.claim()
				u := random.step(c)
				for i := range u.Kids {
					u.Kids[i] = st("range 5")
				}
				s, _ = check.Graft(s, path, u)
			}
		}
		list = append(list, s)
	}
	for _, s := range append(list, append(fullSteps(), chain(41), bush(1999), st("turn x 0", bush(1999)))...) {
		text, err := check.Print(s)
		if err != api.OK || text != lines(s, 0) {
			t.Errorf("Print: %q, error %d, want %q", cut(text), err, cut(lines(s, 0)))
		}
		got, at, err := check.Parse(text)
		if err != api.OK || at != 0 || !check.Equal(got, s) {
			t.Errorf("Parse of %q: error %d at %d", cut(text), err, at)
		}
	}
}
