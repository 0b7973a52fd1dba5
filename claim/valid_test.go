package claim_test

import (
	"slices"
	"strings"
	"testing"

	"inequality/api"
	"inequality/claim"
)

// goodClaims returns valid claims of all kinds.
func goodClaims() []api.Claim {
	twelve := slices.Repeat([]string{"x > 0"}, api.MaxConds)
	return []api.Claim{
		made("1 >= 0", ""), made("x > 0", "x [0, 1]"), made("1 > 0", "x [0, 0]"), made("x + y > 0", "x [-1/3, 2]; y (-inf, inf)", "y - x >= 0"),
		made("x >= 0", "x (-inf, 1/2]", twelve...), made("x >= 0", "x [-2^2048-1, 2^2048-1]"), made(fillerText(300, "x")+" >= 0", "x [0, inf)", towerText(30, "x")+" >= 0"),
		made("a + b + c + d + e + f >= 0", "a [0, 1]; b [0, 1]; c [0, 1]; d [0, 1]; e [0, 1]; f [0, 1]", "a >= 0", "f > 0"),
		made("ab * abcdefgh > 0", "a [0, 1]; ab [0, 1]; abcdefgh [0, 1]; b [0, 1]; x1 [0, 1]; z9 (-inf, 5]", "min(x1, z9) >= 0", "1 / 0 > 0"),
		{Goal: ex("x"), Box: []api.Side{{Name: "x", Iv: api.Interval{Lo: rat("5"), Hi: rat("3"), HiInf: true}}}},
		{Goal: ex("1"), Box: []api.Side{}, Conds: []api.Cond{}},
	}
}

// badClaims returns claims that are not valid.
func badClaims() map[string]api.Claim {
	endless := api.Expr{Op: api.OpNeg, Kids: make([]api.Expr, 1)}
	endless.Kids[0] = endless
	x, deep := ex("x"), api.Expr{Op: api.OpNeg, Kids: []api.Expr{ex(towerText(30, "x"))}}
	side, conds := box("x [0, 1]"), slices.Repeat([]api.Cond{{E: x}}, api.MaxConds)
	return map[string]api.Claim{
		"a zero one":                          {},
		"a zero goal":                         {Box: side},
		"a goal of no kind":                   {Goal: api.Expr{Op: 16}, Box: side},
		"an endless goal":                     {Goal: endless, Box: side},
		"a deep goal":                         {Goal: deep, Box: side},
		"a goal with a number below 0":        {Goal: api.Expr{Op: api.OpNum, Num: rat("-1")}},
		"a goal with a large number":          {Goal: api.Expr{Op: api.OpNum, Num: rat("2^2048")}},
		"a goal with a bad name":              {Goal: api.Expr{Op: api.OpVar, Name: "in"}, Box: side},
		"an empty side":                       {Goal: x, Box: box("x [1, 0]")},
		"a side with a bad name":              {Goal: x, Box: box("X [0, 1]; x [0, 1]")},
		"a side without a name":               {Goal: x, Box: []api.Side{{}, side[0]}},
		"a large end":                         {Goal: x, Box: box("x [0, 2^2048]")},
		"a large number not looked at":        {Goal: x, Box: []api.Side{{Name: "x", Iv: api.Interval{Lo: rat("2^2048"), LoInf: true}}}},
		"sides in descending order":           {Goal: x, Box: box("y [0, 1]; x [0, 1]")},
		"a side twice":                        {Goal: x, Box: box("x [0, 1]; x [0, 1]")},
		"seven sides":                         {Goal: ex("1"), Box: box("a [0, 1]; b [0, 1]; c [0, 1]; d [0, 1]; e [0, 1]; f [0, 1]; g [0, 1]")},
		"a million sides":                     {Goal: ex("1"), Box: make([]api.Side, 1000000)},
		"a goal without a side":               {Goal: x},
		"a goal without one of its sides":     {Goal: ex("sin(x) * y"), Box: side},
		"a condition without a side":          {Goal: x, Box: side, Conds: []api.Cond{{E: x}, {E: ex("y")}}},
		"a condition without a side, of many": {Goal: x, Box: side, Conds: append(slices.Clone(conds[1:]), api.Cond{E: ex("x1")})},
		"a zero condition":                    {Goal: x, Box: side, Conds: []api.Cond{{}}},
		"an endless condition":                {Goal: x, Box: side, Conds: []api.Cond{{E: x}, {E: endless}}},
		"a deep condition":                    {Goal: x, Box: side, Conds: []api.Cond{{E: deep}}},
		"a large number in a condition":       {Goal: x, Box: side, Conds: []api.Cond{{E: api.Expr{Op: api.OpNum, Num: rat("2^-2048")}}}},
		"too many conditions":                 {Goal: x, Box: side, Conds: append(slices.Clone(conds), conds[0])},
		"a million conditions":                {Goal: x, Box: side, Conds: make([]api.Cond, 1000000)},
	}
}

// P6.2: Valid.
func TestValid(t *testing.T) {
	for _, c := range goodClaims() {
		if !claim.Valid(c) || !claim.Valid(disguisedClaim(c)) {
			t.Errorf("%s is not valid", show(c))
		}
	}
	for what, c := range badClaims() {
		if claim.Valid(c) {
			t.Errorf("valid: %s", what)
		}
	}
}

// P6.2: Equal.
func TestEqual(t *testing.T) {
	list := append(goodClaims(), made("1 > 0", ""), made("2 >= 0", ""), made("x >= 0", "x [0, 1]"), made("x > 0", "x [0, 2]"), made("x > 0", "x [1/2, 1]"), made("x > 0", "x [0, inf)"), made("x > 0", "x (-inf, 1]"), made("x > 0", "x (-inf, inf)"), made("x > 0", "x [0, 1]; y [0, 1]"), made("x > 0", "w [0, 1]; x [0, 1]"), made("y > 0", "y [0, 1]"), made("x + 0 > 0", "x [0, 1]"), made("0 + x > 0", "x [0, 1]"),
		made("x > 0", "x [0, 1]", "x > 0"), made("x > 0", "x [0, 1]", "x >= 0"), made("x > 0", "x [0, 1]", "x >= 0", "x >= 0"), made("x > 0", "x [0, 1]", "x >= 0", "x > 0"), made("x > 0", "x [0, 1]", "x > 0", "x >= 0"), made("x > 0", "x [0, 1]", "x >= 0", "x - 1 > 0"), made("x > 0", "x [0, 1]", "x - 1 > 0", "x >= 0"), made("1 >= 0", "x [0, 1]"), made("1 >= 0", "y [0, 1]"), made("1 >= 0", "", "1 >= 0"))
	for _, c := range list {
		for _, d := range list {
			got, err := claim.Equal(c, disguisedClaim(d))
			if want := identical(canonical(c), canonical(d)); got != want || err != api.OK {
				t.Errorf("Equal(%s, %s) is %v, error %d", show(c), show(d), got, err)
			}
		}
	}
	sources(31, 200, func(s source) {
		c, d := s.claim(), s.claim()
		same, err := claim.Equal(disguisedClaim(c), c)
		other, otherErr := claim.Equal(c, d)
		if !same || err != api.OK || otherErr != api.OK || other != identical(c, d) {
			t.Errorf("Equal(%s, %s) is %v", show(c), show(d), other)
		}
	})
}

// P6.2: Free.
func TestFree(t *testing.T) {
	c := made("x + y + z >= 0", "w [0, 1]; x [0, 1]; y [0, 1]; z [0, 1]", "y - 1 >= 0", "1 > 0", "0 * sin(x)^0 > 0")
	for name, want := range map[string]bool{"w": true, "x": false, "y": false, "z": true} {
		if got, err := claim.Free(c, name); got != want || err != api.OK {
			t.Errorf("Free of %s is %v, error %d", name, got, err)
		}
	}
	for _, name := range []string{"", "v", "xx", "X", "in", "x ", "zz"} {
		if got, err := claim.Free(c, name); got || err != api.ErrVar {
			t.Errorf("Free of %q is %v, error %d", name, got, err)
		}
	}
	if got, err := claim.Free(made("x > 0", "x [0, 1]"), "x"); !got || err != api.OK {
		t.Errorf("Free without conditions is %v, error %d", got, err)
	}
	if got, err := claim.Free(made("1 > 0", "x [0, 1]; y [0, 1]", strings.Repeat("-", 29)+"y > 0"), "y"); got || err != api.OK {
		t.Errorf("Free of a deep variable is %v, error %d", got, err)
	}
}

// P6.5: Print.
func TestPrint(t *testing.T) {
	for _, c := range []struct {
		claim api.Claim
		want  string
	}{
		{made("exp(x) - (1 + x) >= 0", "x [-1, 2]"), "exp(x) - (1 + x) >= 0 for x in [-1, 2]"},
		{made("1 - x * y > 0", "x [0, 1]; y [0, inf)", "1 - (x + y) >= 0"), "1 - x * y > 0 for x in [0, 1], y in [0, inf) where 1 - (x + y) >= 0"},
		{made("1 >= 0", ""), "1 >= 0"},
		{made("1 > 0", ""), "1 > 0"},
		{made("0 - 0 > 0", "", "1 > 0"), "0 - 0 > 0 where 1 > 0"},
		{made("1 > 0", "", "pi >= 0", "-1 > 0", "min(1, 2) >= 0"), "1 > 0 where pi >= 0, -1 > 0, min(1, 2) >= 0"},
		{made("x > 0", "x (-inf, inf)"), "x > 0 for x in (-inf, inf)"},
		{made("x > 0", "x (-inf, -1/2]; y [-7/3, inf); z [5, 5]", "x > 0"), "x > 0 for x in (-inf, -1/2], y in [-7/3, inf), z in [5, 5] where x > 0"},
		{api.Claim{Goal: ex("x"), Box: []api.Side{{Name: "x", Iv: api.Interval{Lo: rat("5"), Hi: rat("3"), LoInf: true}}}}, "x >= 0 for x in (-inf, 3]"},
		{made("sqrt(x)^-2 >= 0", "x [0, 0]", "if(x, 1, 2) - x >= 0"), "sqrt(x)^-2 >= 0 for x in [0, 0] where if(x, 1, 2) - x >= 0"},
	} {
		for _, d := range []api.Claim{c.claim, disguisedClaim(c.claim)} {
			if got, err := claim.Print(d); got != c.want || err != api.OK {
				t.Errorf("Print is %s, error %d; want %s", got, err, c.want)
			}
		}
	}
}

// digits returns the text of an expression of exactly n bytes: a sum of long numbers.
func digits(n int) string {
	text := strings.Repeat("7 + ", 6)
	for n-len(text) > 600 {
		text += strings.Repeat("9", 500) + " + "
	}
	return text + strings.Repeat("8", n-len(text))
}

// P6.5: texts of MaxText bytes, and longer ones.
func TestPrintLimit(t *testing.T) {
	for what, c := range map[string]struct {
		claim api.Claim
		err   api.Errno
	}{
		"a goal at the limit":             {made(digits(api.MaxText-5)+" >= 0", ""), api.OK},
		"a longer goal":                   {made(digits(api.MaxText-4)+" >= 0", ""), api.ErrLimit},
		"a strict goal at the limit":      {made(digits(api.MaxText-4)+" > 0", ""), api.OK},
		"a longer strict goal":            {made(digits(api.MaxText-3)+" > 0", ""), api.ErrLimit},
		"a side at the limit":             {made(digits(api.MaxText-5-18)+" >= 0", "x [-1, 11]"), api.OK},
		"a longer side":                   {made(digits(api.MaxText-5-18)+" >= 0", "x [-1, 111]"), api.ErrLimit},
		"a condition at the limit":        {made("1 > 0", "", digits(api.MaxText-5-7-5)+" >= 0"), api.OK},
		"a longer condition":              {made("1 > 0", "", digits(api.MaxText-5-7-4)+" >= 0"), api.ErrLimit},
		"a text of a condition too long":  {api.Claim{Goal: ex("1"), Conds: []api.Cond{{E: api.Expr{Op: api.OpAdd, Kids: []api.Expr{ex(digits(2000)), ex(digits(2000))}}}}}, api.ErrLimit},
		"a text of the goal too long":     {api.Claim{Goal: api.Expr{Op: api.OpAdd, Kids: []api.Expr{ex(digits(2000)), ex(digits(2000))}}}, api.ErrLimit},
		"all conditions at half the size": {made("1 > 0", "", slices.Repeat([]string{digits(400) + " > 0"}, 12)...), api.ErrLimit},
	} {
		text, err := claim.Print(c.claim)
		if err != c.err || (err == api.OK) != (len(text) == api.MaxText) || err != api.OK && text != "" {
			t.Errorf("Print of %s: %d bytes, error %d, want %d", what, len(text), err, c.err)
		}
	}
}

// P6.15: Parse of Print of a claim is an equal one.
func TestTexts(t *testing.T) {
	for _, c := range goodClaims() {
		text, err := claim.Print(c)
		back, at, parseErr := claim.Parse(text)
		same, equalErr := claim.Equal(c, back)
		if err != api.OK || parseErr != api.OK || at != 0 || !same || equalErr != api.OK {
			t.Errorf("Parse(%s): %s, errors %d and %d at %d", cut(text), show(back), err, parseErr, at)
		}
	}
	sources(41, 500, func(s source) {
		c := s.claim()
		text, err := claim.Print(disguisedClaim(c))
		back, at, parseErr := claim.Parse(text)
		if err != api.OK || parseErr != api.OK || at != 0 || !identical(back, c) {
			t.Errorf("Parse(%s): %s, errors %d and %d at %d", text, show(back), err, parseErr, at)
		}
	})
}
