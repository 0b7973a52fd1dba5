package check_test

import (
	"slices"
	"strings"
	"testing"

	"inequality/api"
	"inequality/check"
)

// variants returns a claim and a step as they are and in other forms that mean the same. The kids of the steps are of any kind.
func variants(c api.Claim, s api.Step) ([]api.Claim, []api.Step) {
	wild := s
	wild.Kids = slices.Clone(s.Kids)
	for i := range wild.Kids {
		wild.Kids[i] = endless(2 + i)
	}
	return []api.Claim{c, disguisedClaim(c)}, []api.Step{s, disguisedStep(s), wild}
}

// expectApply checks Apply of a step.
func expectApply(t *testing.T, lib []api.Entry, c api.Claim, s api.Step, want []string, wantErr api.Errno) {
	t.Helper()
	claims, steps := variants(c, s)
	for _, c := range claims {
		for _, s := range steps {
			got, err := check.Apply(lib, c, s)
			if err != wantErr || !slices.Equal(texts(got), want) {
				t.Errorf("Apply(%s, %s): %q, error %d; want %q, error %d", cut(text(c)), describe(s), texts(got), err, want, wantErr)
				return
			}
		}
	}
}

// describe returns a text of a step without its kids.
func describe(s api.Step) (text string) {
	defer func() {
		if recover() != nil {
			text = "an odd step"
		}
	}()
	s.Kids = nil
	return cut(strings.TrimSpace(lines(s, 0)))
}

// applies checks that a step applies to a claim and leads to claims with these texts.
func applies(t *testing.T, claim, step string, want ...string) {
	t.Helper()
	expectApply(t, nil, cl(claim), st(step), want, api.OK)
}

// fails checks that a step does not apply to a claim.
func fails(t *testing.T, claim, step string) {
	t.Helper()
	expectApply(t, nil, cl(claim), st(step), nil, api.ErrProof)
}

// P7.4, 1: range, and the required sign.
func TestRange(t *testing.T) {
	applies(t, "x^2 + 1 > 0 for x in [-3, 5]", "range 4")
	applies(t, "sin(x) + 2 > 0 for x in (-inf, inf)", "range 4")
	applies(t, "x^2 >= 0 for x in [-1, 1]", "range 0")
	applies(t, "0 >= 0", "range 0")
	applies(t, "1 > 0", "range 128")
	applies(t, "1 > 0 where 0 > 1", "range 128")
	applies(t, "x >= 0 for x in [0, inf)", "range 1")
	fails(t, "x^2 > 0 for x in [-1, 1]", "range 0")
	fails(t, "0 > 0", "range 0")
	fails(t, "x >= 0 for x in [-1, 1]", "range 4")
	fails(t, "x >= 0 for x in (-inf, inf)", "range 4")
	fails(t, "-x^2 >= 0 for x in [-1, 1]", "range 4")
	fails(t, "-1 >= 0", "range 4")
	fails(t, "x >= 0 for x in [-2, -1]", "range 4")
	fails(t, "x^2 - x + 1 > 0 for x in [0, 1]", "range 4")
	// precisions
	applies(t, "1/3 >= 0", "range 1")
	fails(t, "1/3 > 0", "range 1")
	applies(t, "1/3 > 0", "range 2")
	for _, prec := range []string{"-1", "129", "-9223372036854775808", "9223372036854775807"} {
		fails(t, "1 > 0", "range "+prec)
		fails(t, "exp(x) > 0 for x in [0, 1]", "range "+prec)
	}
	// goals that are not defined
	fails(t, "1 / x >= 0 for x in [0, 1]", "range 4")
	fails(t, "1 + 0 * log(x) >= 0 for x in [0, 1]", "range 4")
	fails(t, "exp(x) > 0 for x in [64, 65]", "range 4")
	applies(t, "if(x, 1, log(x)) > 0 for x in [0, 1]", "range 4")
}

// P7.4, 2 to 4: the mean value form, the Taylor form and the linear form.
func TestForms(t *testing.T) {
	for claim, want := range map[string]string{ // m, t, l, n: the forms that show the claim, and the natural extension
		"x^2 - x + 1 > 0 for x in [0, 1]":                    "mt",
		"x * x - x + 1 > 0 for x in [0, 1]":                  "mtl",
		"x^2 - x + 1/4 >= 0 for x in [0, 1]":                 "t",
		"x^2 - x + 1/4 > 0 for x in [0, 1]":                  "",
		"exp(x) >= 1 + x for x in [-1, 1]":                   "t",
		"x - x >= 0 for x in [0, 1]":                         "mtl",
		"x - x > 0 for x in [0, 1]":                          "",
		"3 - x > 0 for x in [0, 1], y in [0, 1]":             "mtln",
		"sqrt(x) + 1 > 0 for x in [0, 1]":                    "ln",
		"abs(x) + 1 > 0 for x in [-1, 1]":                    "ln",
		"abs(x) + x - x + 1/2 > 0 for x in [0, 1]":           "l",
		"x^2 + x - x + 1 > 0 for x in [0, inf)":              "",
		"x^2 + 1 > 0 for x in (-inf, 0]":                     "n",
		"1 + 0 * log(x) > 0 for x in [-1, 3]":                "",
		"1 + 0 * log(x) > 0 for x in [1, 3]":                 "mtln",
		"1 + 0 / x > 0 for x in [-1, 3]":                     "",
		"sqrt(x - x) + 1 > 0 for x in [0, 1]":                "",
		"log(1 + x - x) + 1 > 0 for x in [0, 1]":             "",
		"log(2 + x - x) + 1 > 0 for x in [0, 1]":             "mtln",
		"-1 - x + x > 0 for x in [0, 1]":                     "",
		"x - 1/2 > 0 for x in [0, 1]":                        "",
		"4 > 0":                                              "mtln",
		"0 >= 0":                                             "mtln",
		"min(x, 2) - x / 2 + 1 > 0 for x in [0, 1]":          "ln",
		"x * y - x - y + 2 > 0 for x in [0, 1], y in [0, 1]": "mtl",
	} {
		for _, f := range []string{"mean", "taylor", "linear", "natural"} {
			step := f + " 6"
			if f == "natural" {
				step = "range 6"
			}
			if strings.Contains(want, f[:1]) {
				applies(t, claim, step)
			} else {
				fails(t, claim, step)
			}
			if f != "natural" {
				for _, prec := range []string{" -1", " 129"} {
					fails(t, claim, f+prec)
				}
			}
		}
	}
}

// P7.4, 5: a condition that fails.
func TestEmpty(t *testing.T) {
	on := "x - 9 >= 0 for x in [-1, 1] where "
	applies(t, on+"x >= 2", "empty 0 4")
	applies(t, on+"x > 2", "empty 0 4")
	applies(t, on+"x > 1", "empty 0 4")
	fails(t, on+"x >= 1", "empty 0 4")
	applies(t, on+"0 > 0", "empty 0 4")
	fails(t, on+"0 >= 0", "empty 0 4")
	fails(t, on+"x > 0", "empty 0 4")
	fails(t, on+"x^2 > 0", "empty 0 4")
	fails(t, on+"2 > x", "empty 0 4")
	fails(t, on+"log(x) > 9", "empty 0 4")
	fails(t, on+"log(x - 5) > 0", "empty 0 4")
	applies(t, on+"0 > 1, x^2 >= -1, 0 - x^2 > 0", "empty 0 4")
	fails(t, on+"0 > 1, x^2 >= -1, 0 - x^2 > 0", "empty 1 4")
	applies(t, on+"0 > 1, x^2 >= -1, 0 - x^2 > 0", "empty 2 4")
	for _, k := range []string{"-1", "3", "-9223372036854775808", "9223372036854775807"} {
		fails(t, on+"0 > 1, 0 > 1, 0 > 1", "empty "+k+" 4")
	}
	fails(t, "x - 9 >= 0 for x in [-1, 1]", "empty 0 4")
	applies(t, on+"0 >= 1/3", "empty 0 2")
	fails(t, on+"0 >= 1/3", "empty 0 1")
	fails(t, on+"0 >= 1", "empty 0 -1")
	fails(t, on+"0 >= 1", "empty 0 129")
	applies(t, "log(x) > 0 for x in [-1, 1] where x > 1", "empty 0 4") // the goal need not be defined
	applies(t, "1 > 2 for x in (-inf, -3] where x > -2", "empty 0 4")
}

// P7.4, 6: cut.
func TestCut(t *testing.T) {
	applies(t, "x > y for x in [0, 1], y in [1, inf) where x > 0", "cut x 1/3", "x - y > 0 for x in [0, 1/3], y in [1, inf) where x > 0", "x - y > 0 for x in [1/3, 1], y in [1, inf) where x > 0")
	applies(t, "x > y for x in [0, 1], y in [1, inf)", "cut y 9", "x - y > 0 for x in [0, 1], y in [1, 9]", "x - y > 0 for x in [0, 1], y in [9, inf)")
	applies(t, "log(x) >= 0 for x in (-inf, inf)", "cut x -2", "log(x) >= 0 for x in (-inf, -2]", "log(x) >= 0 for x in [-2, inf)")
	for _, at := range []string{"0", "1", "-1", "2", "2^2000"} {
		fails(t, "x > 0 for x in [0, 1]", "cut x "+at)
	}
	fails(t, "x > 0 for x in [0, 1]", "cut y 1/2")
	fails(t, "x > 0 for x in [0, 1]", "cut X 1/2")
	fails(t, "1 > 0", "cut x 1/2")
}

// P7.4, 7 and 8: rise and fall.
func TestRiseFall(t *testing.T) {
	applies(t, "x - sin(x) >= 0 for x in [0, inf)", "rise x 8", "0 - sin(0) >= 0")
	fails(t, "x - sin(x) >= 0 for x in [0, inf)", "fall x 8")
	for derivative, want := range map[string]string{"1": "r", "0": "rf", "-1": "f", "2 * (x - 1)": "r", "2 * (x - 2)": "f", "2 * (x - 3/2)": ""} {
		goal := map[string]string{"1": "x", "0": "y", "-1": "-x", "2 * (x - 1)": "(x - 1)^2", "2 * (x - 2)": "(x - 2)^2", "2 * (x - 3/2)": "(x - 3/2)^2"}[derivative]
		for _, sign := range []string{" >= 0", " > 0"} {
			c, low, high := goal+sign+" for x in [1, 2], y in [0, 1] where y > 1/2", strings.ReplaceAll(goal, "x", "1"), strings.ReplaceAll(goal, "x", "2")
			if strings.Contains(want, "r") {
				applies(t, c, "rise x 4", low+sign+" for y in [0, 1] where y - 1/2 > 0")
			} else {
				fails(t, c, "rise x 4")
			}
			if strings.Contains(want, "f") {
				applies(t, c, "fall x 4", high+sign+" for y in [0, 1] where y - 1/2 > 0")
			} else {
				fails(t, c, "fall x 4")
			}
		}
	}
	for rule, sign := range map[string]string{"rise": "", "fall": "-"} {
		x := sign + "x"
		applies(t, x+" > 0 for x in [1/3, 1/3]", rule+" x 4", sign+"1/3 > 0")
		fails(t, x+" > 0 for x in [1, 2] where x > 0", rule+" x 4")
		fails(t, x+" > 0 for x in [1, 2], y in [1, 2] where y > 0, 0 * x + y >= 0", rule+" x 4")
		fails(t, x+" > 0 for x in (-inf, inf)", rule+" x 4")
		fails(t, x+" + 0 * log(y) > 0 for x in [1, 2], y in [0, 1]", rule+" x 4")
		fails(t, x+" + 0 / y > 0 for x in [1, 2], y in [-1, 1]", rule+" x 4")
		fails(t, sign+"(x + abs(y)) > 0 for x in [1, 2], y in [-1, 1]", rule+" x 4")
		fails(t, sign+"sqrt(x) > 0 for x in [0, 1]", rule+" x 4")
		applies(t, sign+"sqrt(x) > 0 for x in [1, 4]", rule+" x 4", sign+map[string]string{"rise": "sqrt(1) > 0", "fall": "sqrt(4) > 0"}[rule])
		fails(t, x+" > 0 for x in [1, 2]", rule+" y 4")
		fails(t, x+" > 0 for x in [1, 2]", rule+" X 4")
		fails(t, x+" > 0 for x in [1, 2]", rule+" x -1")
		fails(t, x+" > 0 for x in [1, 2]", rule+" x 129")
		fails(t, sign+"sin(x) > 0 for x in [0, 2]", rule+" x 9")
		fails(t, sign+"exp(x) > 0 for x in [64, 65]", rule+" x 4")
	}
	// the literal of -1 is one deeper than the variable
	applies(t, towerText(29, "x")+" > 0 for x in [-1, 1]", "rise x 4", towerText(29, "-1")+" > 0")
	fails(t, towerText(29, "x^1")+" > 0 for x in [-1, 1]", "rise x 4")
	applies(t, towerText(30, "x")+" > 0 for x in [-1, 1]", "fall x 4", towerText(30, "1")+" > 0")
	fails(t, towerText(30, "x")+" > 0 for x in [-2, -1]", "fall x 4")
	fails(t, "x > 0 for x in (-inf, 1]", "rise x 4")
	applies(t, "-x > 0 for x in (-inf, 1]", "fall x 4", "-1 > 0")
	applies(t, "x > 0 for x in [1, inf)", "rise x 4", "1 > 0")
	fails(t, "-x > 0 for x in [1, inf)", "fall x 4")
	fails(t, "exp(sin(x)^2 + cos(x))^32 * "+fillerText(200, "x")+" > 0 for x in [0, 0]", "rise x 4") // the derivative is too large
}

// P7.4, 9: cave.
func TestCave(t *testing.T) {
	applies(t, "x * (1 - x) >= 0 for x in [0, 1]", "cave x 4", "0 * (1 - 0) >= 0", "1 * (1 - 1) >= 0")
	for second, want := range map[string]bool{"0": true, "-x^2": true, "-(x + 1)^2": true, "(x - 1) * x^2": true, "x^2": false, "x": false, "1": false} {
		goal := map[string]string{"0": "y * x + 1", "-x^2": "-x^4", "-(x + 1)^2": "-(x + 1)^4", "(x - 1) * x^2": "-1/12 * x^4", "x^2": "x^4", "x": "x^3", "1": "x^2"}[second]
		for _, sign := range []string{" >= 0", " > 0"} {
			c, low, high := goal+sign+" for x in [-1, 1/3], y in [0, 1] where y > 1/2", strings.ReplaceAll(goal, "x^", "(-1)^"), strings.ReplaceAll(goal, "x", "1/3")
			low = strings.ReplaceAll(low, "x", "-1")
			if want {
				applies(t, c, "cave x 6", text(cl(low+sign+" for y in [0, 1] where y > 1/2")), text(cl(high+sign+" for y in [0, 1] where y > 1/2")))
			} else {
				fails(t, c, "cave x 6")
			}
		}
	}
	applies(t, "1 - x^2 > 0 for x in [1/3, 1/3]", "cave x 4", "1 - 1/3^2 > 0", "1 - 1/3^2 > 0")
	fails(t, "1 - x^2 > 0 for x in [0, 1] where x > 0", "cave x 4")
	fails(t, "1 - x^2 > 0 for x in [0, inf)", "cave x 4")
	fails(t, "1 - x^2 > 0 for x in (-inf, 0]", "cave x 4")
	fails(t, "1 - x^2 + 0 * log(y) > 0 for x in [0, 1], y in [0, 1]", "cave x 4")
	fails(t, "1 - abs(x) > 0 for x in [-1, 1]", "cave x 4")
	fails(t, "sqrt(x) > 0 for x in [0, 1]", "cave x 4")
	applies(t, "sqrt(x) > 0 for x in [1, 4]", "cave x 4", "sqrt(1) > 0", "sqrt(4) > 0")
	fails(t, "1 - x^2 > 0 for x in [0, 1]", "cave y 4")
	fails(t, "1 - x^2 > 0 for x in [0, 1]", "cave x -1")
	fails(t, "1 - x^2 > 0 for x in [0, 1]", "cave x 129")
}

// P7.4, 10: narrow.
func TestNarrow(t *testing.T) {
	c := "x * y >= 0 for x in [0, 4], y in [0, 1] where y > -1, 1 - x >= 0"
	applies(t, c, "narrow x 1 4 3", "x * y >= 0 for x in [0, 2], y in [0, 1] where y - -1 > 0, 1 - x >= 0")
	applies(t, c, "narrow x 1 16 3", "x * y >= 0 for x in [0, 5/4], y in [0, 1] where y - -1 > 0, 1 - x >= 0")
	applies(t, c, "narrow x 1 3 0", "x * y >= 0 for x in [0, 8/3], y in [0, 1] where y - -1 > 0, 1 - x >= 0")
	fails(t, c, "narrow x 0 4 3")
	fails(t, c, "narrow y 1 4 3")
	fails(t, c, "narrow z 1 4 3")
	for _, rest := range []string{"-1 4 3", "2 4 3", "1 1 3", "1 17 3", "1 -4 3", "1 4 -1", "1 4 129"} {
		fails(t, c, "narrow x "+rest)
	}
	fails(t, "x >= 0 for x in [0, inf) where 1 - x >= 0", "narrow x 0 4 3")
	fails(t, "x >= 0 for x in [3, 3] where 1 - x >= 0", "narrow x 0 4 3")
	applies(t, "log(x) >= 0 for x in [-4, 4] where x > 0", "narrow x 0 2 3", "log(x) >= 0 for x in [0, 4] where x > 0")
}

// P7.4, 11: branch.
func TestBranch(t *testing.T) {
	applies(t, "abs(x) > 0 for x in [-1, 1] where x < 1", "branch 4", "x > 0 for x in [-1, 1] where 1 - x > 0, x >= 0", "-x > 0 for x in [-1, 1] where 1 - x > 0, -x > 0")
	applies(t, "x + min(x, y) >= 0 for x in [0, 1], y in (-inf, inf)", "branch 128", "x + x >= 0 for x in [0, 1], y in (-inf, inf) where y - x >= 0", "x + y >= 0 for x in [0, 1], y in (-inf, inf) where -(y - x) > 0")
	applies(t, "max(abs(x), 1) >= 1 for x in [-1, 1]", "branch 0", "max(x, 1) - 1 >= 0 for x in [-1, 1] where x >= 0", "max(-x, 1) - 1 >= 0 for x in [-1, 1] where -x > 0")
	applies(t, "if(x, log(x), 1 / x) >= 0 for x in [-1, 1]", "branch 4", "log(x) >= 0 for x in [-1, 1] where x >= 0", "1 / x >= 0 for x in [-1, 1] where -x > 0")
	fails(t, "if(log(x), 1, 2) > 0 for x in [0, 1]", "branch 4")
	fails(t, "abs(1 / x) >= 0 for x in [0, 1]", "branch 4")
	fails(t, "abs(x) >= 0 for x in [0, 1]", "branch -1")
	fails(t, "abs(x) >= 0 for x in [0, 1]", "branch 129")
	fails(t, "x >= 0 for x in [0, 1] where abs(x) > 0", "branch 4")
	conds := strings.Repeat(", x > 0", 11)
	applies(t, "abs(x) >= 0 for x in [0, 1] where "+conds[2:], "branch 4", "x >= 0 for x in [0, 1] where "+conds[2:]+", x >= 0", "-x >= 0 for x in [0, 1] where "+conds[2:]+", -x > 0")
	fails(t, "abs(x) >= 0 for x in [0, 1] where 1 > 0"+conds, "branch 4")
	fails(t, "min("+towerText(29, "x")+", 1) >= 0 for x in [0, 1]", "branch 4")
}

// P7.4, 12: turn.
func TestTurn(t *testing.T) {
	applies(t, "sin(x) + y > 0 for x in (-inf, inf), y in [2, inf) where cos(x) > 0", "turn x -1/2", "sin(x) + y > 0 for x in [-1/2, 13/2], y in [2, inf) where cos(x) > 0")
	fails(t, "sin(x) + y > 0 for x in (-inf, inf), y in [2, inf) where cos(x) > 0", "turn y 0")
	fails(t, "sin(x) + y > 0 for x in (-inf, inf), y in [2, inf) where cos(x) > 0", "turn z 0")
	fails(t, "sin(x) + 2 > 0 for x in [0, inf)", "turn x 0")
	fails(t, "sin(x) + 2 > 0 for x in (-inf, 0]", "turn x 0")
	fails(t, "sin(x) + x > 0 for x in (-inf, inf)", "turn x 0")
	fails(t, "sin(x) + 2 > 0 for x in (-inf, inf) where x > 0", "turn x 0")
	applies(t, "sin(x) + 2 > 0 for x in (-inf, inf)", "turn x 2^-2044", "sin(x) + 2 > 0 for x in ["+get(api.Step{At: rat("2^-2044")}, "At")+", "+get(pickAt(t, "2^-2044"), "At")+"]")
	fails(t, "sin(x) + 2 > 0 for x in (-inf, inf)", "turn x 2^-2047")
}

// pickAt returns a step with the sum of a number and 7 as its At, which the turn of a claim has as its upper end.
func pickAt(t *testing.T, at string) api.Step {
	t.Helper()
	list, err := check.Apply(nil, cl("1 > 0 for x in (-inf, inf)"), st("turn x "+at))
	if err != api.OK {
		t.Fatalf("turn at %s: error %d", at, err)
	}
	return api.Step{At: list[0].Box[0].Iv.Hi}
}
