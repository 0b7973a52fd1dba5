package expr_test

import (
	"math/rand"
	"strings"
	"testing"

	"inequality/api"
	"inequality/expr"
)

// expectParse checks the result of Parse.
func expectParse(t *testing.T, text, want string, wantAt int, wantErr api.Errno) {
	t.Helper()
	e, at, err := expr.Parse(text)
	if len(text) > 100 {
		text = text[:100] + ".."
	}
	expect(t, "Parse("+text+")", e, err, want, wantErr)
	if at != wantAt {
		t.Errorf("Parse(%s): offset %d, want %d", text, at, wantAt)
	}
}

// P4.3, P4.4: texts and their expressions.
func TestParse(t *testing.T) {
	for text, want := range map[string]string{
		"2 * x - 1/2":                 "(- (* 2 x) 1/2)",
		"-x^2":                        "(neg (^ 2 x))",
		"1 /2":                        "(/ 1 2)",
		"1/ 2":                        "(/ 1 2)",
		"1 / 2":                       "(/ 1 2)",
		"1/2":                         "1/2",
		"x^-2":                        "(^ -2 x)",
		"x ^ - 2":                     "(^ -2 x)",
		"x^-0":                        "(^ 0 x)",
		"x^32":                        "(^ 32 x)",
		"x^-32":                       "(^ -32 x)",
		"x^0002":                      "(^ 2 x)",
		"x/2":                         "(/ x 2)",
		"1/2/3":                       "(/ 1/2 3)",
		"1/2/3/4":                     "(/ 1/2 3/4)",
		"1.5/2":                       "(/ 3/2 2)",
		"2.50":                        "5/2",
		"007/014":                     "1/2",
		"0/5":                         "0",
		"0.000":                       "0",
		"a - b - c":                   "(- (- a b) c)",
		"a - b + c - d":               "(- (+ (- a b) c) d)",
		"a / b / c * d":               "(* (/ (/ a b) c) d)",
		"a + b * c":                   "(+ a (* b c))",
		"a * b + c":                   "(+ (* a b) c)",
		"(a + b) * c":                 "(* (+ a b) c)",
		"a - (b - c)":                 "(- a (- b c))",
		"-a * b":                      "(* (neg a) b)",
		"a * -b":                      "(* a (neg b))",
		"a--b":                        "(- a (neg b))",
		"a - - - b":                   "(- a (neg (neg b)))",
		"a+-b^2*c":                    "(+ a (* (neg (^ 2 b)) c))",
		"(-x)^2":                      "(^ 2 (neg x))",
		"(x^2)^3":                     "(^ 3 (^ 2 x))",
		"1/2^3":                       "(^ 3 1/2)",
		"2^3 /4":                      "(/ (^ 3 2) 4)",
		"((x))":                       "x",
		"pi^2":                        "(^ 2 pi)",
		"sqrt(x)":                     "(root 2 x)",
		"root(2, x)":                  "(root 2 x)",
		"root( 08 ,x+y)":              "(root 8 (+ x y))",
		"exp(log(x))":                 "(exp (log x))",
		"sin(cos(tan(x)))^2":          "(^ 2 (sin (cos (tan x))))",
		"asin(x) + acos(y) + atan(z)": "(+ (+ (asin x) (acos y)) (atan z))",
		"abs(-x)":                     "(abs (neg x))",
		"min(x, max(y,1.25))":         "(min x (max y 5/4))",
		"if(x-1,y,-z)":                "(if (- x 1) y (neg z))",
		"  x  ":                       "x",
		"exp2 * pi3 + i":              "(+ (* exp2 pi3) i)",
		"abcdefgh":                    "abcdefgh",
		"sin (x)":                     "(sin x)",
	} {
		expectParse(t, text, want, 0, api.OK)
	}
}

// P4.4: the first byte at which no token begins, also behind tokens that cannot stand.
func TestParseTokens(t *testing.T) {
	for text, at := range map[string]int{
		"x + Y": 4, "X": 0, "x\t": 1, "x\n": 1, "\x00": 0, "é": 0, "x + é": 4, "x_1": 1, ".5": 0, "1.": 1, "1.x": 1, "1..2": 1, "1.2.3": 3, "1/2.5": 3, "x = y": 2, "x >= 0": 2, "[": 0, "x!": 1, "2**x^^;": 6,
		") ) 1 x ?": 8, "abcdefghi": 0, "1 + abcdefghi": 4, "sinsinsin": 0, "wherewhere": 0, "\xff": 0, "x,\"": 2, "0x1G": 3, "x $ #": 2, "12345678901a%": 12, "/.": 1, "x\r": 1, "x\u00a0": 1, "{x}": 0, "`": 0, "x|y": 1, "x:y": 1, "@": 0,
	} {
		expectParse(t, text, "", at, api.ErrSyntax)
	}
}

// P4.4: the first token that cannot stand at its place, or the end of the text.
func TestParseSyntax(t *testing.T) {
	for text, at := range map[string]int{
		"": 0, "   ": 3, "2x": 1, "x y": 2, "x 2": 2, "1 2": 2, "2 pi": 2, "+": 0, "+x": 0, "x +": 3, "x + ": 4, "x + * y": 4, "x * / y": 4, "x - + y": 4, "-": 1, "- ": 2, "--": 2, "*x": 0, ")": 0, "()": 1, "(x": 2, "(x ": 3, "(x))": 3, "x)": 1, "(x y)": 3, ",": 0, "x,y": 1, "(x, y)": 2,
		"x^": 2, "x^y": 2, "x^(2)": 2, "x^--2": 3, "x^-": 3, "x^+2": 2, "x^2.0": 2, "x^1/2": 2, "x^2/3": 2, "x^2^3": 3, "x^-2^3": 4, "x^2 3": 4, "^2": 0, "-^2": 1, "x^pi": 2, "x^-y": 3,
		"sin": 3, "sin x": 4, "sin(": 4, "sin()": 4, "sin(x": 5, "sin(x,y)": 5, "sin^2(x)": 3, "exp": 3, "exp+1": 3, "pi(x)": 2, "x(y)": 1, "abs()": 4, "abs(x,y)": 5, "sqrt(2,x)": 6, "sqrt": 4,
		"min(x)": 5, "min(x,)": 6, "min(x,y,z)": 7, "min(,x)": 4, "max x,y": 4, "max(x": 5, "max(x,": 6, "max(x,y": 7, "if(x,y)": 6, "if(x,y,z,w)": 8, "if(x)": 4, "if x": 3, "if(x,y,z": 8,
		"root": 4, "root(": 5, "root(x,2)": 5, "root(2)": 6, "root(2 x)": 7, "root(2,x,y)": 8, "root(-2,x)": 5, "root(2/3,x)": 5, "root(2.0,x)": 5, "root(2,)": 7, "root(2,x": 8, "root(,x)": 5, "root(2+1,x)": 6, "root((2),x)": 5, "root 2": 5,
		"inf": 0, "for": 0, "in": 0, "where": 0, "x in y": 2, "x for y": 2, "-inf": 1, "sin(inf)": 4, "x where": 2, "x + where": 4,
		"1/x/": 4, "x*(y+(z-1)": 10, "((((": 4, "(1": 2, "1(2)": 1, "x^2x": 3,
	} {
		expectParse(t, text, "", at, api.ErrSyntax)
	}
}

// P4.4: NUMBERs and DIGITS with values that cannot be, and the order of their errors.
func TestParseNumbers(t *testing.T) {
	nines := strings.Repeat("9", 617) // above 2^2048
	many := strings.Repeat("0", 1240) // the number of bytes, not the value
	for text, want := range map[string]struct {
		at  int
		err api.Errno
	}{
		"1/0":                       {0, api.ErrZero},
		"x + 1/00":                  {4, api.ErrZero},
		"x^33 + 1/0 + 2/0":          {7, api.ErrZero},
		nines + "+1/0":              {618, api.ErrZero},
		"1/" + many:                 {0, api.ErrZero},
		"x*1/" + many + "+1/0":      {2, api.ErrZero},
		"x+" + nines:                {2, api.ErrSize},
		"1/" + nines + "+" + nines:  {0, api.ErrSize},
		"x^33+" + nines:             {5, api.ErrSize},
		"x^" + nines:                {2, api.ErrSize},
		"x^-" + nines:               {3, api.ErrSize},
		"root(" + nines + ",x)":     {5, api.ErrSize},
		"0" + many:                  {0, api.ErrSize},
		"x+0." + many[2:] + "0":     {2, api.ErrSize},
		"x^0" + many:                {2, api.ErrSize},
		"0." + many[:700] + "1":     {0, api.ErrSize},
		"x^33":                      {2, api.ErrArg},
		"x^-33":                     {3, api.ErrArg},
		"x^ - 33 + y^34":            {5, api.ErrArg},
		"x^4294967298":              {2, api.ErrArg},
		"x^18446744073709551618":    {2, api.ErrArg},
		"x^" + nines[:600]:          {2, api.ErrArg},
		"root(1,x)":                 {5, api.ErrArg},
		"root(0,x)":                 {5, api.ErrArg},
		"root(9,x^33)":              {5, api.ErrArg},
		"root(8,x^33)":              {9, api.ErrArg},
		"root(3,x^2)+root(11,y)":    {17, api.ErrArg},
		"x^32+root(0002,y^0032)^99": {23, api.ErrArg},
		"x^-33 + Y":                 {8, api.ErrSyntax},
		"1/0 + ":                    {6, api.ErrSyntax},
		"1/0 x 2 !":                 {8, api.ErrSyntax},
	} {
		expectParse(t, text, "", want.at, want.err)
	}
	for text, want := range map[string]string{
		many:                           "0",
		many[:1239] + "7":              "7",
		"x^" + many[:1238] + "32":      "(^ 32 x)",
		many[:600] + "6/" + "4":        "3/2",
		nines + "/" + nines:            "1",
		"0." + many[:1238]:             "0",
		"1." + many[:1238] + " + x":    "(+ 1 x)",
		"root(" + many[:1239] + "3,x)": "(root 3 x)",
	} {
		expectParse(t, text, want, 0, api.OK)
	}
}

// P4.4: the limits of the text and of the expression.
func TestParseLimits(t *testing.T) {
	spaces := strings.Repeat(" ", api.MaxText)
	expectParse(t, spaces[1:]+"x", "x", 0, api.OK)
	expectParse(t, spaces+"x", "", 0, api.ErrLimit)
	expectParse(t, spaces+"?", "", 0, api.ErrLimit)
	expectParse(t, spaces[1:]+"?", "", api.MaxText-1, api.ErrSyntax)
	expectParse(t, strings.Repeat("(", 1999)+"x"+strings.Repeat(")", 1999), "x", 0, api.OK)
	expectParse(t, strings.Repeat("(", 4000), "", 4000, api.ErrSyntax)
	expectParse(t, strings.Repeat("-", 29)+"x", strings.Repeat("(neg ", 29)+"x"+strings.Repeat(")", 29), 0, api.OK)
	expectParse(t, strings.Repeat("-", 30)+"x", "", 0, api.ErrLimit)
	expectParse(t, strings.Repeat("-", 3999)+"x", "", 0, api.ErrLimit)
	expectParse(t, "x"+strings.Repeat("+x", 30), "", 0, api.ErrLimit)
	expectParse(t, strings.Repeat("-", 30)+"x^33", "", 31+1, api.ErrArg)
	expectParse(t, strings.Repeat("-", 30)+"1/0", "", 30, api.ErrZero)
	for _, nodes := range []int{299, 300} {
		e, at, err := expr.Parse(print(filler(nodes)))
		expectTree(t, "Parse of many nodes", e, err, func() api.Expr { return filler(nodes) }, api.OK)
		if at != 0 {
			t.Errorf("offset %d", at)
		}
	}
	expectParse(t, "("+print(filler(149))+")*("+print(filler(151))+")", "", 0, api.ErrLimit)
}

// machine is another reader of the grammar, one that goes through the tokens once and keeps the operands that are still to come. It returns the index of the first token that cannot stand, which may be the one for the end.
func machine(tokens []string) int {
	const operand, atom, power, exponent, sum, open, index, comma = 0, 1, 2, 3, 4, 5, 6, 7
	count := map[string]int{"exp": 1, "log": 1, "sin": 1, "cos": 1, "tan": 1, "asin": 1, "acos": 1, "atan": 1, "abs": 1, "sqrt": 1, "min": 2, "max": 2, "if": 3}
	var commas []int // that are still to come, for each parenthesis that is open
	state, pending := operand, 0
	for i, token := range tokens {
		digits := strings.Trim(token, "0123456789") == "" && token != ""
		number := strings.Trim(token, "0123456789./") == "" && token != "" && token != "/"
		switch {
		case state == operand && token == "-":
		case state == operand && (number || token == "pi" || expr.IsName(token)):
			state = atom
		case state == operand && token == "(":
			commas = append(commas, 0)
		case state == operand && count[token] > 0:
			state, pending = open, count[token]-1
		case state == operand && token == "root":
			state, pending = open, -1
		case state == open && token == "(" && pending < 0:
			state = index
		case state == open && token == "(":
			state, commas = operand, append(commas, pending)
		case state == index && digits:
			state = comma
		case state == comma && token == ",":
			state, commas = operand, append(commas, 0)
		case state == atom && token == "^":
			state = power
		case state == power && token == "-":
			state = exponent
		case (state == power || state == exponent) && digits:
			state = sum
		case (state == atom || state == sum) && (token == "+" || token == "-" || token == "*" || token == "/"):
			state = operand
		case (state == atom || state == sum) && token == "," && len(commas) > 0 && commas[len(commas)-1] > 0:
			state = operand
			commas[len(commas)-1]--
		case (state == atom || state == sum) && token == ")" && len(commas) > 0 && commas[len(commas)-1] == 0:
			state, commas = atom, commas[:len(commas)-1]
		default:
			return i
		}
	}
	if (state == atom || state == sum) && len(commas) == 0 {
		return -1
	}
	return len(tokens)
}

// P4.3, P4.4: Parse finds the same first token that cannot stand as the machine, in random texts and in texts of expressions in which tokens are exchanged.
func TestParseMachine(t *testing.T) {
	all := strings.Fields("( ) ( ) , + - * / ^ x y 2 3 1/2 2.5 pi sin exp abs sqrt min max if root inf where")
	r := rand.New(rand.NewSource(4))
	compare := func(tokens []string) {
		text, starts := "", []int{}
		for _, token := range tokens {
			text += strings.Repeat(" ", 1+r.Intn(2))
			starts = append(starts, len(text))
			text += token
		}
		starts = append(starts, len(text))
		_, at, err := expr.Parse(text)
		bad := machine(tokens)
		switch {
		case bad < 0 && err == api.ErrSyntax:
			t.Errorf("Parse(%s): ErrSyntax at %d", text, at)
		case bad >= 0 && (err != api.ErrSyntax || at != starts[bad]):
			t.Errorf("Parse(%s): error %d at %d, want ErrSyntax at %d", text, err, at, starts[bad])
		}
	}
	for range 3000 {
		var tokens []string
		for range r.Intn(9) {
			tokens = append(tokens, all[r.Intn(len(all))])
		}
		compare(tokens)
	}
	everything.each(5, 2000, 4, func(r *rand.Rand, e api.Expr) {
		if !expr.Valid(e) {
			return
		}
		tokens := spread(print(e))
		compare(tokens)
		tokens[r.Intn(len(tokens))] = all[r.Intn(len(all))]
		compare(tokens)
		i := r.Intn(len(tokens))
		compare(append(tokens[:i:i], tokens[i+1:]...))
	})
}

// spread returns the tokens of a text of Print.
func spread(text string) []string {
	for _, mark := range []string{"(", ")", ",", "^", "-"} {
		text = strings.ReplaceAll(text, mark, " "+mark+" ")
	}
	return strings.Fields(text)
}
