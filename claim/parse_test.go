package claim_test

import (
	"strings"
	"testing"

	"inequality/api"
	"inequality/claim"
	"inequality/expr"
)

// expectParse checks the result of Parse of a text that has an error.
func expectParse(t *testing.T, text string, at int, err api.Errno) {
	t.Helper()
	c, gotAt, gotErr := claim.Parse(text)
	if gotAt != at || gotErr != err || !isZero(c) {
		t.Errorf("Parse(%s): %s, error %d at %d; want error %d at %d", cut(text), show(c), gotErr, gotAt, err, at)
	}
}

// P6.3, P6.4: texts and their claims.
func TestParse(t *testing.T) {
	for text, want := range map[string]api.Claim{
		"exp(x) >= 1 + x for x in [-1, 2]":                          made("exp(x) - (1 + x) >= 0", "x [-1, 2]"),
		"x * y < 1 for y in [0, inf), x in [0, 1] where x + y <= 1": made("1 - x * y > 0", "x [0, 1]; y [0, inf)", "1 - (x + y) >= 0"),
		"1 >= 0":      made("1 >= 0", ""),
		"1 > 0":       made("1 > 0", ""),
		"1>=2":        made("1 - 2 >= 0", ""),
		"1 <= 2":      made("2 - 1 >= 0", ""),
		"1 < 2":       made("2 - 1 > 0", ""),
		"1 > 2":       made("1 - 2 > 0", ""),
		"0 >= 0":      made("0 >= 0", ""),
		"0 > 0":       made("0 > 0", ""),
		"0 <= 0":      made("0 >= 0", ""),
		"0 <= 3":      made("3 >= 0", ""),
		"0 < 3":       made("3 > 0", ""),
		"3 <= 0":      made("0 - 3 >= 0", ""),
		"3 < 0":       made("0 - 3 > 0", ""),
		"0 >= 3":      made("0 - 3 >= 0", ""),
		"3 >= 0.00":   made("3 >= 0", ""),
		"3 >= 0/7":    made("3 >= 0", ""),
		"3 >= ((0))":  made("3 >= 0", ""),
		"0/5 < 3 - 0": made("3 - 0 > 0", ""),
		"3 >= -0":     made("3 - -0 >= 0", ""),
		"3 >= 0 + 0":  made("3 - (0 + 0) >= 0", ""),
		"3 >= 0 * 1":  made("3 - 0 * 1 >= 0", ""),
		"3 >= 1/2":    made("3 - 1/2 >= 0", ""),
		"a - b >= c - d for a in [0,1],b in[0,1],c in [0,1] ,d in [0,1]":        made("a - b - (c - d) >= 0", "a [0, 1]; b [0, 1]; c [0, 1]; d [0, 1]"),
		"a + b <= c + d for d in [0, 1], c in [0, 1], b in [0, 1], a in [0, 1]": made("c + d - (a + b) >= 0", "a [0, 1]; b [0, 1]; c [0, 1]; d [0, 1]"),
		"x >= 0 for x in (-inf, inf)":                                           made("x >= 0", "x (-inf, inf)"),
		"x >= 0 for x in ( - inf , inf )":                                       made("x >= 0", "x (-inf, inf)"),
		"x >= 0 for x in (-inf, -1/2]":                                          made("x >= 0", "x (-inf, -1/2]"),
		"x >= 0 for x in [- 3.50, inf)":                                         made("x >= 0", "x [-7/2, inf)"),
		"x >= 0 for x in [-0, 0]":                                               made("x >= 0", "x [0, 0]"),
		"x >= 0 for x in [2/4, 6/12]":                                           made("x >= 0", "x [1/2, 1/2]"),
		"x >= 0 for x in [007,08.0]":                                            made("x >= 0", "x [7, 8]"),
		"x >= 0 for x in [-1/2, -1/3]":                                          made("x >= 0", "x [-1/2, -1/3]"),
		"1 >= 0 for x in [0, 1]":                                                made("1 >= 0", "x [0, 1]"),
		"1 >= 0 where 1 >= 2":                                                   made("1 >= 0", "", "1 - 2 >= 0"),
		"1 > 0 where 0 < 0, 3 > 2, 0 >= 1":                                      made("1 > 0", "", "0 > 0", "3 - 2 > 0", "0 - 1 >= 0"),
		"x > y for x in [0, 1], y in [2, 3] where x < y, x > 0, y <= 0, min(x, y) >= max(y, x)":   made("x - y > 0", "x [0, 1]; y [2, 3]", "y - x > 0", "x > 0", "0 - y >= 0", "min(x, y) - max(y, x) >= 0"),
		"x + y >= 0 for y in [2, 3], x in [0, 1], x1 in [4, 5], ab in [6, 7]":                     made("x + y >= 0", "ab [6, 7]; x [0, 1]; x1 [4, 5]; y [2, 3]"),
		"root(3, x)^-2 >= if(x, 1, pi) for x in [1, 2]":                                           made("root(3, x)^-2 - if(x, 1, pi) >= 0", "x [1, 2]"),
		"  x>=0for x in[0,1]where 1>0  ":                                                          made("x >= 0", "x [0, 1]", "1 > 0"),
		"x>=0 for x in [0,1]where x-1/2<0":                                                        made("x >= 0", "x [0, 1]", "0 - (x - 1/2) > 0"),
		"f >= e for f in [0, 1], e in [0, 1], d in [0, 1], c in [0, 1], b in [0, 1], a in [0, 1]": made("f - e >= 0", "a [0, 1]; b [0, 1]; c [0, 1]; d [0, 1]; e [0, 1]; f [0, 1]"),
		"fore >= wherein for fore in [0, 1], wherein in [0, inf)":                                 made("fore - wherein >= 0", "fore [0, 1]; wherein [0, inf)"),
	} {
		c, at, err := claim.Parse(text)
		expect(t, "Parse("+text+")", c, err, want, api.OK)
		if at != 0 {
			t.Errorf("Parse(%s): offset %d", text, at)
		}
	}
}

// P6.4: as many conditions as there may be, in their order.
func TestParseConds(t *testing.T) {
	var texts, rels []string
	for i := range api.MaxConds {
		k := strings.Repeat("1 + ", i) + "1"
		texts, rels = append(texts, k+" > 0"), append(rels, k+" > 0")
	}
	c, at, err := claim.Parse("1 >= 0 where " + strings.Join(texts, ", "))
	expect(t, "Parse of MaxConds conditions", c, err, made("1 >= 0", "", rels...), api.OK)
	if at != 0 {
		t.Errorf("offset %d", at)
	}
}

// P6.4: the first byte at which no token begins, also behind tokens that cannot stand.
func TestParseTokens(t *testing.T) {
	for text, at := range map[string]int{
		"x = y": 2, "x == y": 2, "x => y": 2, "x >== y": 4, "x > = y": 4, "x <== 0": 4, "x <=> = 0": 6, "X >= 0": 0, "x >= 0 for X in [0, 1]": 11, "x >= 0 for x in [0, 1}": 21, "x >= 0 for x in {0, 1]": 16, "x >= 0; y >= 0": 6, "x != 0": 2, "x >= 0 for x in [.5, 1]": 17, "x >= 0 for x in [0, 1.]": 21, "x ≥ 0": 2, "x >= 0\n": 6, "x >= 0 forx in [0, 1] where x_1 >= 0": 29, "x >= 0 for abcdefghi in [0, 1]": 11, ">= >= ] [ 3 ?": 12, "x >= 0 for x in [0, 1] where\t": 28, "x >= 1/2.5": 8, "x >= 0 for x in [0, +inf)|": 25, "\x00": 0, "x>=0forx in[0,1]where_": 21, "x >= 0 for x : [0, 1]": 13, "1 >= 0 & 2 >= 0": 7, "wherewhere": 0,
	} {
		expectParse(t, text, at, api.ErrSyntax)
	}
}

// P6.4: the first token that cannot stand at its place, or the end of the text.
func TestParseSyntax(t *testing.T) {
	for text, at := range map[string]int{
		"": 0, "   ": 3, "x": 1, "x ": 2, "x >": 3, "x >=": 4, "x >= ": 5, ">= 0": 0, "x > > y": 4, "x > = y ": 4, "x >= <= y": 5, "x < y < z": 6, "x >= 0 >= 0": 7, "x, y >= 0": 1, "(x >= 0)": 3, "x + >= 0": 4, "sin(x >= 0": 6, "min(x, y >= 0": 9, "min(x) >= 0": 5, "x y >= 0": 2, "x ] 0": 2, "[x] >= 0": 0, "for x": 0, "where": 0, "x in [0, 1]": 2, "x >= 0,": 6, "x >= 0, y >= 0": 6, "x >= inf": 5, "x >= -inf": 6,
		"x >= 0 for": 10, "x >= 0 for ": 11, "x >= 0 for 1": 11, "x >= 0 for pi in [0, 1]": 11, "x >= 0 for for": 11, "x >= 0 for x": 12, "x >= 0 for x [0, 1]": 13, "x >= 0 for x = [0, 1]": 13, "x >= 0 for x in": 15, "x >= 0 for x in x": 16, "x >= 0 for x in inf": 16, "x >= 0 for x in 0": 16,
		"x >= 0 for x in [": 17, "x >= 0 for x in []": 17, "x >= 0 for x in [inf, 1]": 17, "x >= 0 for x in [-inf, 1]": 18, "x >= 0 for x in [--1, 1]": 18, "x >= 0 for x in [x, 1]": 17, "x >= 0 for x in [(1), 1]": 17, "x >= 0 for x in [1]": 18, "x >= 0 for x in [1 + 1, 2]": 19, "x >= 0 for x in [1 1]": 19, "x >= 0 for x in [1^2, 2]": 18, "x >= 0 for x in [1 /2, 2]": 19, "x >= 0 for x in [1,": 19, "x >= 0 for x in [1, ]": 20, "x >= 0 for x in [1, -inf)": 21, "x >= 0 for x in [1, inf]": 23, "x >= 0 for x in [1, inf": 23, "x >= 0 for x in [1, 2)": 21, "x >= 0 for x in [1, 2": 21, "x >= 0 for x in [1, -]": 21, "x >= 0 for x in [1, x]": 20, "x >= 0 for x in [1, 2, 3]": 21, "x >= 0 for x in [1, pi]": 20,
		"x >= 0 for x in (": 17, "x >= 0 for x in (0, 1]": 17, "x >= 0 for x in (inf, 1]": 17, "x >= 0 for x in (-1, 1]": 18, "x >= 0 for x in (-": 18, "x >= 0 for x in (-inf": 21, "x >= 0 for x in (-inf]": 21, "x >= 0 for x in (-inf, 1)": 24, "x >= 0 for x in (-inf, inf]": 26, "x >= 0 for x in (-inf, inf": 26, "x >= 0 for x in (-inf, -inf)": 24, "x >= 0 for x in (--inf, 1]": 18,
		"x >= 0 for x in [1, 2],": 23, "x >= 0 for x in [1, 2], where": 24, "x >= 0 for x in [1, 2] y in [1, 2]": 23, "x >= 0 for x, y in [1, 2]": 12, "x >= 0 for x in [1, 2] for y in [1, 2]": 23, "x >= 0 for x in [1, 2] >= 0": 23, "x >= 0 for x in [1, 2] - 1": 23, "x >= 0 for where x >= 0": 11,
		"x >= 0 where": 12, "x >= 0 where x": 14, "x >= 0 where x >= 0,": 20, "x >= 0 where x >= 0 where": 20, "x >= 0 where x >= 0 for": 20, "x >= 0 where x >= 0, where": 21, "x >= 0 where , x >= 0": 13, "x >= 0 where x >= 0 y >= 0": 20, "x >= 0 where y in [0, 1]": 15, "x >= 0 where for x in [0, 1]": 13, "x >= 0 where x >= y >= 0": 20,
		"x^2^2 >= 0": 3, "x >= 0 for x in [2, 1] where 1": 30, "1/0 >= x^99 for x in [2, 1": 26,
	} {
		expectParse(t, text, at, api.ErrSyntax)
	}
}

// P6.4: NUMBERs and DIGITS with values that cannot be, in bounds too, and the order of their errors.
func TestParseNumbers(t *testing.T) {
	nines := strings.Repeat("9", 617) // above 2^2048
	for text, want := range map[string]struct {
		at  int
		err api.Errno
	}{
		"1/0 >= 0": {0, api.ErrZero},
		"x^33 >= " + nines + " + 1/00 for x in [2, 1]":             {8 + 617 + 3, api.ErrZero},
		"x^33 >= 0 for x in [1, 2/0]":                              {23, api.ErrZero},
		"x^33 >= 0 for x in [-3/0, 2/0]":                           {21, api.ErrZero},
		"x >= 0 for x in (-inf, - 0/0] where 1/0 > 0":              {25, api.ErrZero},
		"x >= " + nines + " where 1 >= 1/0":                        {5 + 617 + 12, api.ErrZero},
		"x^33 >= 0 for x in [" + nines + ", 1]":                    {20, api.ErrSize},
		"x^33 >= 0 for x in [1, -" + nines + "]":                   {24, api.ErrSize},
		"x >= 0 for x in [1/" + nines + ", " + nines + "]":         {17, api.ErrSize},
		"x >= 0 for x in [0, 0." + strings.Repeat("0", 1300) + "]": {20, api.ErrSize},
		"x^" + nines + " >= 0 for x in [" + nines + ", inf)":       {2, api.ErrSize},
		"x^33 >= 0 where root(9, x) >= 0":                          {2, api.ErrArg},
		"x >= 0 for x in [2, 1] where root(9, x) >= 0":             {34, api.ErrArg},
		"x >= 0 where 1 > x^-33":                                   {20, api.ErrArg},
		"y^-99 >= 0 for x in [2, 1]":                               {3, api.ErrArg},
		towerText(31, "x") + " >= 0 where x^33 > 0":                {45, api.ErrArg},
	} {
		expectParse(t, text, want.at, want.err)
	}
	top := strings.Repeat("0", 600) + "7"
	c, _, err := claim.Parse("x >= " + top + " for x in [" + top + "/2, 8." + strings.Repeat("0", 600) + "]")
	expect(t, "Parse of long numbers", c, err, made("x - 7 >= 0", "x [7/2, 8]"), api.OK)
}

// P6.4: the limits of the text and of its expressions.
func TestParseLimits(t *testing.T) {
	spaces := strings.Repeat(" ", api.MaxText-6)
	c, at, err := claim.Parse("1 >= 0" + spaces)
	expect(t, "Parse of MaxText bytes", c, err, made("1 >= 0", ""), api.OK)
	if at != 0 {
		t.Errorf("offset %d", at)
	}
	expectParse(t, "1 >= 0"+spaces+" ", 0, api.ErrLimit)
	expectParse(t, "1 ? = 0"+spaces, 0, api.ErrLimit)
	expectParse(t, "1 >= ?"+spaces, 5, api.ErrSyntax)
	expectParse(t, strings.Repeat("(", 3000)+">=", 3000, api.ErrSyntax)
	rest := " for v in [0, 1], w in [0, 1]"
	for text, want := range map[string]string{
		towerText(30, "v") + " >= 0" + rest:                         towerText(30, "v") + " >= 0",
		towerText(29, "v") + " >= 1" + rest:                         towerText(29, "v") + " - 1 >= 0",
		"0 < " + towerText(30, "v") + rest:                          towerText(30, "v") + " > 0",
		fillerText(300, "v") + " >= 0" + rest:                       fillerText(300, "v") + " >= 0",
		fillerText(150, "v") + " > " + fillerText(149, "w") + rest:  fillerText(150, "v") + " - " + fillerText(149, "w") + " > 0",
		fillerText(150, "v") + " <= " + fillerText(149, "w") + rest: fillerText(149, "w") + " - " + fillerText(150, "v") + " >= 0",
	} {
		c, _, err := claim.Parse(text)
		expect(t, "Parse of a large expression", c, err, made(want, "v [0, 1]; w [0, 1]"), api.OK)
	}
	for _, k := range []string{
		towerText(31, "v") + " >= 0", towerText(30, "v") + " >= 1", "1 > " + towerText(30, "v"), towerText(30, "v") + " < 0", "0 >= " + towerText(30, "v"), fillerText(301, "v") + " >= 0", fillerText(299, "v") + " >= 1", fillerText(150, "v") + " > " + fillerText(150, "w"), fillerText(150, "v") + " < " + fillerText(150, "w"), towerText(30, "v") + " >= -0",
	} {
		expectParse(t, k+rest, 0, api.ErrLimit)
		expectParse(t, k+" for v in [1, 0]", 0, api.ErrLimit)
		expectParse(t, "u >= 0"+rest+" where 1 > 0, "+k, 0, api.ErrLimit)
		expectParse(t, "1 >= 0 where "+repeated("1 > 0", 13)+", "+k, 0, api.ErrLimit)
	}
}

// P6.4: sides that cannot be, in the order of the text.
func TestParseSides(t *testing.T) {
	six := "a in [0, 1], b in [0, 1], c in [0, 1], d in [0, 1], e in [0, 1], f in [0, 1]"
	for text, at := range map[string]int{
		"x >= 0 for x in [2, 1]":                                 11,
		"x >= 0 for  x  in [1/2, 1/3]":                           12,
		"x >= 0 for x in [-1/3, -1/2]":                           11,
		"x >= 0 for x in [0, -1], x in [0, 1]":                   11,
		"x >= 0 for x in [0, 1], y in [0, 1], x in [0, 1]":       37,
		"x >= 0 for x in [0, 1], x in (-inf, inf), y in [3, 2]":  24,
		"x >= 0 for y in [0, 1], x in [1, 0], y in [0, 1]":       24,
		"q >= 0 for x in [1, 0] where z >= 0":                    11,
		"q >= 0 for x in [1, 0] where " + repeated("z >= 0", 13): 11,
		"a >= 0 for " + six + ", g in [0, 1]":                    11 + 78,
		"a >= 0 for " + six + ", g in [0, 1], h in [1, 0]":       11 + 78,
		"a >= 0 for " + six + ", g in [1, 0]":                    11 + 78,
		"a >= 0 for " + six + ", b in [0, 1], g in [0, 1]":       11 + 78,
		"a >= 0 for z in [1, 0], " + six + ", g in [0, 1]":       11,
		"a >= 0 for " + six[:65] + "a in [0, 1], g in [0, 1]":    11 + 65,
		"a >= 0 for " + repeated("a in [0, 1]", 200):             11 + 13,
	} {
		expectParse(t, text, at, api.ErrBox)
	}
	c, _, err := claim.Parse("a >= 0 for " + six)
	expect(t, "Parse of MaxSides sides", c, err, made("a >= 0", "a [0, 1]; b [0, 1]; c [0, 1]; d [0, 1]; e [0, 1]; f [0, 1]"), api.OK)
}

// P6.4: the first condition that is one too many, and the first variable without a side.
func TestParseCondsVars(t *testing.T) {
	for text, at := range map[string]int{
		"1 >= 0 where " + repeated("1 > 0", 13):                            13 + 12*7,
		"q >= 0 where " + repeated("z > 0", 15):                            13 + 12*7,
		"q >= 0 where " + repeated("z > 0", 12) + " ,   (1) > 0":           13 + 12*7 - 2 + 5,
		"x >= 0 for x in [0, 1] where " + repeated("z <= 0", 12) + ", q<1": 29 + 12*8,
	} {
		expectParse(t, text, at, api.ErrLimit)
	}
	for text, at := range map[string]int{
		"x >= y for x in [0, 1]":              5,
		"x >= 0":                              0,
		"1 >= 0 * x":                          9,
		"0 <= x":                              5,
		"y <= z for x in [0, 1]":              0,
		"y > z for y in [0, 1]":               4,
		"x + sin(x1) < z for x in [0, 1]":     8,
		"x >= 0 for y in [0, 1] where z >= 0": 0,
		"y >= 0 for y in [0, 1] where z >= x": 29,
		"y >= 0 for y in [0, 1] where y >= 0, min(1, y^2) > -zz^2": 52,
		"y >= 0 where " + repeated("1 > 0", 12):                    0,
		"if(1, 2, q) >= 0 for y in [0, 1]":                         9,
		"x*y >= x*y*z for y in [0, 1], x in [0, 1]":                11,
	} {
		expectParse(t, text, at, api.ErrVar)
	}
}

// grammar is the grammar of claims and of expressions, one alternative a line; $ stands for the end, NAME, NUMBER and DIGITS for kinds of tokens, and a NUMBER of digits alone is a DIGITS.
const grammar = `
claim = rel more
more = $
more = for side sides $
more = for side sides where rel rels $
more = where rel rels $
sides =
sides = , side sides
rels =
rels = , rel rels
rel = expr >= expr
rel = expr <= expr
rel = expr > expr
rel = expr < expr
side = NAME in [ bound , bound ]
side = NAME in [ bound , inf )
side = NAME in ( - inf , bound ]
side = NAME in ( - inf , inf )
bound = number
bound = - number
number = NUMBER
number = DIGITS
expr = term
expr = expr + term
expr = expr - term
term = factor
term = term * factor
term = term / factor
factor = - factor
factor = power
power = atom
power = atom ^ DIGITS
power = atom ^ - DIGITS
atom = number
atom = NAME
atom = pi
atom = ( expr )
atom = sin ( expr )
atom = exp ( expr )
atom = abs ( expr )
atom = sqrt ( expr )
atom = root ( DIGITS , expr )
atom = min ( expr , expr )
atom = max ( expr , expr )
atom = if ( expr , expr , expr )
`

// An item is an alternative of the grammar of which the first words have been found, from the token at start on.
type item struct{ rule, found, start int }

// firstBad returns the index of the first of the tokens with which no text of the grammar can go on, or -1, by Earley's method: the items after a token are those that it and the items before it allow.
func firstBad(tokens []string) int {
	rules := strings.Split(strings.TrimSpace(grammar), "\n")
	words := make([][]string, len(rules))
	for i, rule := range rules {
		words[i] = strings.Fields(strings.Replace(rule, " =", "", 1))
	}
	sets := []map[item]bool{{item{0, 1, 0}: true}}
	for at, token := range append(tokens[:len(tokens):len(tokens)], "$") {
		sets[at] = closure(words, sets, at)
		next := map[item]bool{}
		for i := range sets[at] {
			if rest := words[i.rule][i.found:]; len(rest) > 0 && rest[0] == kindOf(token) {
				next[item{i.rule, i.found + 1, i.start}] = true
			}
		}
		if len(next) == 0 {
			return at
		}
		sets = append(sets, next)
	}
	return -1
}

// closure returns the items of the last set with all those that follow from them.
func closure(words [][]string, sets []map[item]bool, at int) map[item]bool {
	all := map[item]bool{}
	var work []item
	add := func(i item) {
		if !all[i] {
			all[i] = true
			work = append(work, i)
		}
	}
	for i := range sets[at] {
		add(i)
	}
	empty := map[string]bool{"sides": true, "rels": true}
	for len(work) > 0 {
		i := work[0]
		work = work[1:]
		if rest := words[i.rule][i.found:]; len(rest) > 0 {
			for rule := range words {
				if words[rule][0] == rest[0] {
					add(item{rule, 1, at})
				}
			}
			if empty[rest[0]] {
				add(item{i.rule, i.found + 1, i.start})
			}
			continue
		}
		if i.start == at { // what is found in no tokens is stepped over above
			continue
		}
		for j := range sets[i.start] {
			if rest := words[j.rule][j.found:]; len(rest) > 0 && rest[0] == words[i.rule][0] {
				add(item{j.rule, j.found + 1, j.start})
			}
		}
	}
	return all
}

// kindOf returns the word of the grammar for a token.
func kindOf(token string) string {
	switch {
	case expr.IsName(token):
		return "NAME"
	case strings.Trim(token, "0123456789") == "":
		return "DIGITS"
	case strings.Trim(token, "0123456789./") == "" && token != "/":
		return "NUMBER"
	}
	return token
}

// tokensOf returns the tokens of a text of Print.
func tokensOf(text string) []string {
	for _, mark := range []string{"(", ")", "[", "]", ",", "^", "-"} {
		text = strings.ReplaceAll(text, mark, " "+mark+" ")
	}
	return strings.Fields(text)
}

// P6.3, P6.4: Parse finds the same first token that cannot stand as Earley's method, in random texts and in texts of claims in which tokens are exchanged, dropped or doubled.
func TestParseGrammar(t *testing.T) {
	all := strings.Fields(">= <= > < [ ] ( ) , + - * / ^ x y 2 3 1/2 2.5 pi sin min if root for in where inf for in where inf")
	compare := func(s source, tokens []string) {
		text, starts := "", []int{}
		for _, token := range tokens {
			text += strings.Repeat(" ", 1+s.Intn(2))
			starts = append(starts, len(text))
			text += token
		}
		starts = append(starts, len(text))
		_, at, err := claim.Parse(text)
		switch bad := firstBad(tokens); {
		case bad < 0 && err == api.ErrSyntax:
			t.Errorf("Parse(%s): ErrSyntax at %d", text, at)
		case bad >= 0 && (err != api.ErrSyntax || at != starts[bad]):
			t.Errorf("Parse(%s): error %d at %d, want ErrSyntax at %d", text, err, at, starts[bad])
		}
	}
	sources(21, 150, func(s source) {
		var tokens []string
		for range s.Intn(9) {
			tokens = append(tokens, all[s.Intn(len(all))])
		}
		compare(s, tokens)
		text, err := claim.Print(s.claim())
		if tokens = tokensOf(text); err != api.OK || len(tokens) > 60 {
			return
		}
		for _, name := range []string{"cos", "tan", "exp", "log", "asin", "acos", "atan"} { // functions that the grammar above leaves out
			for i := range tokens {
				if tokens[i] == name {
					tokens[i] = "sin"
				}
			}
		}
		compare(s, tokens)
		i := s.Intn(len(tokens))
		compare(s, append(tokens[:i:i], tokens[i+1:]...))
		compare(s, append(append(tokens[:i:i], tokens[s.Intn(len(tokens))]), tokens[i:]...))
		tokens[i] = all[s.Intn(len(all))]
		compare(s, tokens)
	})
}

// R1, P6.4: texts of arbitrary bytes have a claim, or an error at a place in them.
func TestParseBytes(t *testing.T) {
	accepted := 0
	sources(25, 1500, func(s source) {
		text, _ := claim.Print(s.claim())
		b := []byte(text)
		for range s.Intn(3) {
			b[s.Intn(len(b))] = []byte{byte(s.Intn(256)), ' ', '0', ',', '<', 'x'}[s.Intn(6)]
		}
		c, at, err := claim.Parse(string(b))
		if at < 0 || at > len(b) || err == api.OK && (at != 0 || !claim.Valid(c)) || err != api.OK && !isZero(c) {
			t.Errorf("Parse(%q) is %s, error %d at %d", b, show(c), err, at)
		}
		if err == api.OK {
			accepted++
		}
	})
	if accepted < 500 || accepted > 2500 {
		t.Errorf("%d texts are accepted", accepted)
	}
}
