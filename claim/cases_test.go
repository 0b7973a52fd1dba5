package claim_test

import (
	"slices"
	"testing"

	"inequality/api"
	"inequality/claim"
	"inequality/expr"
)

// P6.12: Branch.
func TestBranch(t *testing.T) {
	twelve := slices.Repeat([]string{"y > 0"}, 11)
	for _, c := range []struct {
		claim   string
		yes, no api.Claim
	}{
		{"x + abs(min(x, y)) >= 0 for x in [0, 1], y in [0, 1]", made("x + abs(x) >= 0", "x [0, 1]; y [0, 1]", "y - x >= 0"), made("x + abs(y) >= 0", "x [0, 1]; y [0, 1]", "-(y - x) > 0")},
		{"abs(x) > 0 for x in (-inf, 1/3] where x < 1/3, 1 >= 0", made("x > 0", "x (-inf, 1/3]", "1/3 - x > 0", "1 >= 0", "x >= 0"), made("-x > 0", "x (-inf, 1/3]", "1/3 - x > 0", "1 >= 0", "-x > 0")},
		{"max(x, 1) >= 2 for x in [0, 1]", made("x - 2 >= 0", "x [0, 1]", "x - 1 >= 0"), made("1 - 2 >= 0", "x [0, 1]", "-(x - 1) > 0")},
		{"if(x, y, abs(y)) > 0 for x in [0, 1], y in [0, 1]", made("y > 0", "x [0, 1]; y [0, 1]", "x >= 0"), made("abs(y) > 0", "x [0, 1]; y [0, 1]", "-x > 0")},
		{"abs(1) > 0", made("1 > 0", "", "1 >= 0"), made("-1 > 0", "", "-1 > 0")},
		{"abs(x) >= 0 for x in [0, 1], y in [0, 1] where " + repeated("y > 0", 11), made("x >= 0", "x [0, 1]; y [0, 1]", append(slices.Clone(twelve), "x >= 0")...), made("-x >= 0", "x [0, 1]; y [0, 1]", append(slices.Clone(twelve), "-x > 0")...)},
		{"x >= abs(x) for x in [0, 1] where abs(x) >= 0", made("x - x >= 0", "x [0, 1]", "abs(x) >= 0", "x >= 0"), made("x - -x >= 0", "x [0, 1]", "abs(x) >= 0", "-x > 0")},
	} {
		for i, want := range []api.Claim{c.yes, c.no} {
			expectSame(t, "Branch("+c.claim+")", func(disguise bool) (api.Claim, api.Errno) {
				yes, no, err := claim.Branch(either(cl(c.claim), disguise))
				return []api.Claim{yes, no}[i], err
			}, want, api.OK)
		}
	}
}

// P6.12: the errors of Branch. The opposite of the condition has one node more than it.
func TestBranchErrors(t *testing.T) {
	twelve := slices.Repeat([]string{"x > 0"}, 12)
	in := "x [0, 1]"
	for what, c := range map[string]struct {
		claim api.Claim
		err   api.Errno
	}{
		"a smooth goal":                       {made("x > 0", in), api.ErrSmooth},
		"a smooth goal, conditions":           {made("x > 0", in, "abs(x) > 0"), api.ErrSmooth},
		"a smooth goal, MaxConds conditions":  {made("x > 0", in, twelve...), api.ErrSmooth},
		"MaxConds conditions":                 {made("abs(x) > 0", in, twelve...), api.ErrLimit},
		"one condition less":                  {made("abs(x) > 0", in, twelve[1:]...), api.OK},
		"a deep operand of abs":               {made("abs("+towerText(29, "x")+") > 0", in), api.OK},
		"a deep operand of min":               {made("min("+towerText(29, "x")+", 1) > 0", in), api.ErrLimit},
		"a deep operand of max, on the right": {made("max(1, "+towerText(29, "x")+") > 0", in), api.ErrLimit},
		"a less deep operand of min":          {made("min(1, "+towerText(28, "x")+") > 0", in), api.OK},
		"a deep condition of if":              {made("if("+towerText(29, "x")+", 1, 2) > 0", in), api.OK},
		"many nodes in abs":                   {made("abs("+fillerText(299, "x")+") > 0", in), api.OK},
		"many nodes in min":                   {made("min("+fillerText(149, "x")+", "+fillerText(150, "x")+") > 0", in), api.ErrLimit},
		"less nodes in min":                   {made("min("+fillerText(149, "x")+", "+fillerText(149, "x")+") > 0", in), api.OK},
		"many nodes in max":                   {made("max("+fillerText(149, "x")+", "+fillerText(150, "x")+") >= 0", in), api.ErrLimit},
		"many nodes around it":                {made(fillerText(148, "x")+" + min("+fillerText(100, "x")+", "+fillerText(50, "x")+") >= 0", in), api.OK},
	} {
		yes, no, err := claim.Branch(c.claim)
		if err != c.err || err != api.OK && !(isZero(yes) && isZero(no)) || err == api.OK && !(claim.Valid(yes) && claim.Valid(no)) {
			t.Errorf("Branch of %s: error %d, want %d", what, err, c.err)
		}
	}
}

// P6.13: Turn.
func TestTurn(t *testing.T) {
	for _, c := range []struct {
		claim, name, at string
		want            api.Claim
	}{
		{"sin(x) + 2 > 0 for x in (-inf, inf)", "x", "0", made("sin(x) + 2 > 0", "x [0, 7]")},
		{"sin(2 * x + y) * z >= 1/3 for x in (-inf, inf), y in (-inf, inf), z in [0, 1] where cos(x) > y, z < 1/2", "x", "-22/7", made("sin(2 * x + y) * z - 1/3 >= 0", "x [-22/7, 27/7]; y (-inf, inf); z [0, 1]", "cos(x) - y > 0", "1/2 - z > 0")},
		{"y > 0 for x in (-inf, inf), y in [0, 1]", "x", "5", made("y > 0", "x [5, 12]; y [0, 1]")},
		{"tan(x)^2 >= 0 for x in (-inf, inf)", "x", "2^2047", api.Claim{Goal: ex("tan(x)^2"), Box: []api.Side{{Name: "x", Iv: api.Interval{Lo: rat("2^2047"), Hi: plus7(rat("2^2047"))}}}}},
		{"tan(x)^2 >= 0 for x in (-inf, inf)", "x", "-2^2048-1", api.Claim{Goal: ex("tan(x)^2"), Box: []api.Side{{Name: "x", Iv: api.Interval{Lo: rat("-2^2048-1"), Hi: plus7(rat("-2^2048-1"))}}}}},
	} {
		expectSame(t, "Turn("+c.claim+", "+c.at+")", func(disguise bool) (api.Claim, api.Errno) {
			at := rat(c.at)
			if disguise {
				at = disguised(at)
			}
			return claim.Turn(either(cl(c.claim), disguise), c.name, at)
		}, c.want, api.OK)
	}
	for _, c := range []struct {
		claim, at string
		err       api.Errno
	}{
		{"sin(x) > 0 for x in [0, inf)", "0", api.ErrForm}, {"sin(x) > 0 for x in (-inf, 0]", "0", api.ErrForm}, {"sin(x) > 0 for x in [0, 9]", "0", api.ErrForm}, {"sin(x) > 0 for x in [0, 9]", "2^2048-1", api.ErrForm}, {"sin(x) > 0 for x in [0, 9]", "2^2048", api.ErrSize},
		{"sin(x) + x > 0 for x in (-inf, inf)", "0", api.ErrForm}, {"sin(x / 2) > 0 for x in (-inf, inf)", "0", api.ErrForm}, {"x > 0 for x in (-inf, inf)", "2^2048-1", api.ErrForm}, {"sin(x) > 0 for x in (-inf, inf) where sin(x) > 1, x > 0", "0", api.ErrForm}, {"sin(x) > 0 for x in (-inf, inf) where x^2 > 0, cos(x) > 0", "0", api.ErrForm}, {"exp(x) > 0 for x in (-inf, inf) where x^2 > 0, cos(x) > 0", "0", api.ErrForm},
		{"sin(x) > 0 for x in (-inf, inf)", "2^2048-1", api.ErrSize}, {"sin(x) > 0 for x in (-inf, inf)", "2^-2048", api.ErrSize}, {"sin(x) > 0 for x in (-inf, inf)", "-2^2048", api.ErrSize}, {"sin(x) > 0 for x in (-inf, inf)", "2^-2047", api.ErrSize}, {"sin(x) > 0 for x in (-inf, inf)", "2^-2044", api.OK},
		{"x + sin(y) > 0 for x in [0, 1], y in (-inf, inf)", "0", api.ErrForm},
	} {
		got, err := claim.Turn(cl(c.claim), "x", rat(c.at))
		if err != c.err || err != api.OK && !isZero(got) {
			t.Errorf("Turn(%s, %s): error %d, want %d", c.claim, c.at, err, c.err)
		}
	}
}

// P6.14: Symmetric.
func TestSymmetric(t *testing.T) {
	over := " for x in [0, 1], y in [0, 1], z in [0, 2]"
	for _, c := range []struct {
		text string
		want bool
	}{
		{"x + y > 0" + over, true}, {"x - y > 0" + over, false}, {"z > 0" + over, true}, {"1 > 0" + over, true}, {"(x + y)^2 > 2 * y * x" + over, true}, {"x^2 + y^2 + z >= x * y * z" + over, true}, {"x^2 + y^3 > 0" + over, false}, {"x + z > 0" + over, false}, {"sin(x) + sin(y) > 0" + over, true}, {"sin(x + y) > 0" + over, false}, {"x / y * y - x + z > 0" + over, true}, {"1 / x + 1 / y > 0" + over, true}, {"x / y > 0" + over, false}, {"abs(x - y) > 0" + over, false}, {"abs(x) + abs(y) > 0" + over, true}, {"sqrt(x * y) > 0" + over, false},
		{"(1 + x + y + z)^20 > 0" + over, false}, {"x^32 * x^32 * x + y > 0" + over, false}, {"1 > 0 * (1 + x + y + z)^20" + over, false},
		{"x + y > 0 for x in [0, 1], y in [0, 2]", false}, {"x + y > 0 for x in [0, 1], y in [0, inf)", false}, {"x + y > 0 for x in [0, inf), y in [0, inf)", true}, {"x + y > 0 for x in (-inf, 1/2], y in (-inf, 2/4]", true}, {"x + y > 0 for x in (-inf, inf), y in (-inf, inf)", true}, {"x + y > 0 for x in [1, inf), y in [0, inf)", false}, {"x + y > 0 for x in [0, inf), y in (-inf, inf)", false}, {"x + y > 0 for x in [1/3, 1/3], y in [1/3, 1/3]", true},
		{"1 > 0" + over + " where x > 0, y > 0", true}, {"1 > 0" + over + " where y > 0, z > 0, x > 0, x > 0", true}, {"1 > 0" + over + " where x > 0", false}, {"1 > 0" + over + " where x > 0, y >= 0", false}, {"1 > 0" + over + " where x >= 0, y >= 0", true}, {"1 > 0" + over + " where z > 0", true}, {"1 > 0" + over + " where x > 0, y > 0, y > 1", false}, {"1 > 0" + over + " where x > y", false}, {"1 > 0" + over + " where x > y, y > x", true}, {"1 > 0" + over + " where x > y, y >= x", false},
		{"1 > 0" + over + " where x + y > 0", true}, {"1 > 0" + over + " where x * y + pi >= -x - y", true}, {"1 > 0" + over + " where x + (y + z) > 0", true}, {"1 > 0" + over + " where x^2 > 0, y * y > 0", true}, {"1 > 0" + over + " where x^1 * x^0 > 0, 0 + y > 0", true}, {"1 > 0" + over + " where x^2 > 0, y * y >= 0", false}, {"1 > 0" + over + " where 1/2 * x > 0, 1/3 * y > 0", false},
		{"1 > 0" + over + " where 1 / (x + y) > 0", false}, {"1 > 0" + over + " where 1 / x > 0, 1 / y > 0", true}, {"1 > 0" + over + " where 1 / x > 0, y^-1 > 0", false}, {"1 > 0" + over + " where x^-1 > 0, y^-1 > 0", true}, {"1 > 0" + over + " where 0 + x^-1 > 0, y^-1 + 0 > 0", false}, {"1 > 0" + over + " where 0 + x^1 > 0, y^1 + 0 > 0", true}, {"1 > 0" + over + " where sin(x) + sin(y) > 0", false}, {"1 > 0" + over + " where sin(x) > 0, sin(y) > 0", true}, {"1 > 0" + over + " where 0 * sin(x) + x > 0, y > 0", false}, {"1 > 0" + over + " where y > 0, 0 * sin(x) + x > 0", false}, {"1 > 0" + over + " where x / 2 > 0, 1/2 * y > 0", false}, {"1 > 0" + over + " where abs(x) + 0 > 0, 0 + abs(y) > 0", false}, {"1 > 0" + over + " where abs(x) > 0, abs(y) > 0", true}, {"1 > 0" + over + " where sqrt(x) + 0 > 0, sqrt(y) > 0", false}, {"1 > 0" + over + " where 0 + (x - x) / 1 > 0", false}, {"1 > 0" + over + " where max(x, y) > 0", false}, {"1 > 0" + over + " where max(x, y) > 0, max(y, x) > 0", true}, {"1 > 0" + over + " where if(z, x, y) > 0, if(z, y, x) > 0", true},
		{"1 > 0" + over + " where (1 + x + y + z)^20 > 0", false}, {"1 > 0" + over + " where (1 + z)^20 > 0", true}, {"1 > 0" + over + " where (1 + 1 + 1 + z * x)^32 * x^32 * x^20 > 0, (1 + 1 + 1 + z * y)^32 * y^32 * y^20 > 0", true}, {"1 > 0" + over + " where x^32 * x^32 * x + y > 0, y^32 * y^32 * y + x > 0", true}, {"1 > 0" + over + " where x^32 * x^32 * x + y > 0, x + y^32 * y^32 * y > 0", false}, {"x - y > 0" + over + " where x > 0, y > 0", false},
	} {
		for _, names := range [][2]string{{"x", "y"}, {"y", "x"}} {
			for _, d := range []api.Claim{cl(c.text), disguisedClaim(cl(c.text))} {
				if got, err := claim.Symmetric(d, names[0], names[1]); got != c.want || err != api.OK {
					t.Errorf("Symmetric(%s, %s, %s) is %v, error %d", c.text, names[0], names[1], got, err)
				}
			}
		}
	}
	if _, err := expr.Congruent(ex("(1 + x + y + z)^20"), ex("1")); err != api.ErrLimit {
		t.Errorf("the form of the power has the error %d", err)
	}
	c := cl("x + y > 0" + over)
	for _, names := range [][3]string{{"x", "x"}, {"z", "z"}} {
		if got, err := claim.Symmetric(c, names[0], names[1]); got || err != api.ErrArg {
			t.Errorf("Symmetric of %s twice is %v, error %d", names[0], got, err)
		}
	}
	for _, names := range [][2]string{{"w", "w"}, {"x", "w"}, {"w", "x"}, {"", ""}, {"x", ""}, {"X", "x"}, {"in", "in"}} {
		if got, err := claim.Symmetric(c, names[0], names[1]); got || err != api.ErrVar {
			t.Errorf("Symmetric of %q and %q is %v, error %d", names[0], names[1], got, err)
		}
	}
}
