package check_test

import (
	"math/rand"
	"slices"
	"strconv"
	"strings"
	"testing"

	"inequality/api"
	"inequality/check"
)

// expectParse checks the result of Parse of a text that has an error.
func expectParse(t *testing.T, text string, at int, err api.Errno) {
	t.Helper()
	s, gotAt, gotErr := check.Parse(text)
	if gotAt != at || gotErr != err || !isZero(s) {
		t.Errorf("Parse(%q): error %d at %d; want error %d at %d", cut(text), gotErr, gotAt, err, at)
	}
}

// P7.8: texts of proofs.
func TestParse(t *testing.T) {
	list := fullSteps()
	for _, proof := range proofs() {
		list = append(list, pf(proof))
	}
	for _, line := range []string{"range 0", "range 9223372036854775807", "empty 0 0", "cut a -5", "turn abcdefgh 0", "zero [] 0", "zero [x=0, x=-1/2, a=3, b=4, c=5, d=6] 1", "lead x 2^2048-1 1 1", "lead x -2^-2047 1 1", "via {" + fillerText(300, "x")[1:len(fillerText(300, "x"))-1] + "}", "scale {" + towerText(30, "x") + "}", "same {if(x, max(1, y), -pi^-2)} 3", "lemma a 0 [] 0", "lemma abc 9223372036854775807 [x={root(3, x)}, x={1}, x={1}, x={1}, x={1}, x={x + y - (x - y)}] 3"} {
		s := st(line)
		for i := range s.Kids {
			s.Kids[i] = st("range 5")
		}
		list = append(list, s)
	}
	for _, s := range list {
		got, at, err := check.Parse(lines(s, 0))
		if err != api.OK || at != 0 || !identical(got, s) {
			t.Errorf("Parse(%q): error %d at %d", cut(lines(s, 0)), err, at)
		}
	}
}

// badLines are lines at level 0 that are not lines of Print of any step; those that end with kids need them.
func badLines() []string {
	bad := []string{
		"", " ", "0", "0 ", "range 8", "0 range", "0 range ", "0 range  8", "0  range 8", " 0 range 8", "0 range 8 ", "0 range 8 8", "0 range 08", "0 range -0", "0 range +8", "0 range -1", "0 range 8.0", "0 range x", "0 range 0x8", "0 range 1_0", "0 range 9223372036854775808", "0 range 18446744073709551616", "0 range " + strings.Repeat("9", 5000), "0 range 8\r", "0 range\t8", "0 Range 8", "0 ranges 8", "0 8", "0 rule 8", "0 \x00", "0 range \xff",
		"00 range 8", "+0 range 8", "-0 range 8", "1 range 8", "-1 range 8", "41 range 8", "x range 8", "0.0 range 8", "18446744073709551616 range 8", "0x0 range 8", "0 1 range 8",
		"0 empty 8", "0 empty 0 -8", "0 empty -1 8", "0 empty 1 2 3", "0 empty [] 3",
		"0 cut x", "0 cut 1/2", "0 cut x 2/4", "0 cut x 1/1", "0 cut x -0", "0 cut x 0.5", "0 cut x +1", "0 cut x 1/0", "0 cut x 1/-2", "0 cut x --1", "0 cut x 01", "0 cut x 1/02", "0 cut x 1 /2", "0 cut x (1)", "0 cut x inf", "0 cut x 1e3", "0 cut X 1", "0 cut pi 1", "0 cut abcdefghi 1", "0 cut  1", "0 cut x y 1", "0 cut x 1 2", "0 cut x " + strings.Repeat("9", 700), "0 cut x 1/" + strings.Repeat("9", 700), "0 cut x " + strings.Repeat("9", 5000), "0 cut {x} 1", "0 cut x, 1",
		"0 rise x", "0 rise 8", "0 rise x y 8", "0 rise in 8", "0 rise x -8", "0 fall x1_ 8", "0 cave  8", "0 cave é 8", "0 narrow x 1 2", "0 narrow x 1 2 3 4", "0 narrow 1 2 3", "0 narrow x -1 2 3", "0 narrow x 1 -2 3", "0 narrow x 1 2 -3", "0 branch", "0 branch x", "0 branch {x} 4", "0 turn x", "0 turn x 1/3 8", "0 swap x 8", "0 swap x X 8", "0 swap X x 8", "0 swap x y z", "0 swap x, y 8",
		"0 zero 8", "0 zero [] ", "0 zero []", "0 zero[] 8", "0 zero [ ] 8", "0 zero [x] 8", "0 zero [x=] 8", "0 zero [=1] 8", "0 zero [x=1,y=2] 8", "0 zero [x=1,  y=2] 8", "0 zero [x=1, ] 8", "0 zero [, x=1] 8", "0 zero [x=1 y=2] 8", "0 zero [x = 1] 8", "0 zero [ x=1] 8", "0 zero [x=1 ] 8", "0 zero [x=2/4] 8", "0 zero [x=-0] 8", "0 zero [x=0.5] 8", "0 zero [X=1] 8", "0 zero [pi=1] 8", "0 zero [x=y] 8", "0 zero [x={1}] 8", "0 zero [x=1 8", "0 zero x=1] 8", "0 zero (x=1) 8", "0 zero [x=1]] 8", "0 zero [[x=1] 8", "0 zero [x=1]8", "0 zero [x=1] 8 9", "0 zero [x=1] -8", "0 zero 8 [x=1]", "0 zero [x=1][y=1] 8", "0 zero [x=1] [y=1] 8", "0 zero q[x=1] 8", "0 zero [x=1]q 8", "0 zero [x==1] 8", "0 zero [x=" + strings.Repeat("9", 700) + "] 8", "0 zero [a=1, b=1, c=1, d=1, e=1, f=1, g=1] 8",
		"0 lead x 1 2", "0 lead x 1 -2 3", "0 lead x 1/3 2 3 4", "0 lead x 2/4 2 3", "0 lead X 1 2 3",
		"0 via", "0 via ", "0 via x", "0 via {}", "0 via { x}", "0 via {x }", "0 via {x", "0 via x}", "0 via {x}}", "0 via {{x}", "0 via {{x}}", "0 via {x} 4", "0 via {x}{x}", "0 via {x} {x}", "0 via q{x}", "0 via {x}q", "0 via [x]", "0 via (x)", "0 via {x+1}", "0 via {x  + 1}", "0 via {(x)}", "0 via {x * (y * z) + (a * b)}", "0 via {2/4}", "0 via {0.5}", "0 via {x^02}", "0 via {x^33}", "0 via {root(2, x)}", "0 via {root(9, x)}", "0 via {1/0}", "0 via {X}", "0 via {x y}", "0 via {max(x,y)}", "0 via {max(x)}", "0 via {x >= 0}", "0 via {" + strings.Repeat("9", 700) + "}", "0 via {" + towerText(31, "x") + "}", "0 via {" + fillerText(301, "x") + "}", "0 via {" + strings.Repeat("(", 5000) + "}", "0 via {x\t}", "0 via {x\x00}",
		"0 scale x", "0 scale {x} 1", "0 same {x}", "0 same x 4", "0 same {x} -4", "0 same {x} x", "0 same 4 {x}", "0 same {x}4", "0 same {x}  4",
		"0 add 0", "0 add -1 2", "0 add 0 2/4", "0 add x 1", "0 add 0 1 8", "0 add 1/2 0",
		"0 lemma a 1 []", "0 lemma a [] 4", "0 lemma 1 [] 4", "0 lemma a -1 [] 4", "0 lemma a 1 [] -4", "0 lemma a 01 [] 4", "0 lemma A 1 [] 4", "0 lemma sin 1 [] 4", "0 lemma a 1 [x] 4", "0 lemma a 1 [x=] 4", "0 lemma a 1 [x=1] 4", "0 lemma a 1 [x={1] 4", "0 lemma a 1 [x=1}] 4", "0 lemma a 1 [={1}] 4", "0 lemma a 1 [X={1}] 4", "0 lemma a 1 [x={1},y={2}] 4", "0 lemma a 1 [x={1}y={2}] 4", "0 lemma a 1 [x={1}, ] 4", "0 lemma a 1 [, x={1}] 4", "0 lemma a 1 [x={}] 4", "0 lemma a 1 [x={2/4}] 4", "0 lemma a 1 [x={x+1}] 4", "0 lemma a 1 [x={x}] 4 5", "0 lemma a 1 [x={x}]4", "0 lemma a 1 {x} 4", "0 lemma a 1 [x={x}, y={y}, x={x}, x={x}, x={x}, x={x}, x={x}] 4", "0 lemma a 1 [x={x}}] 4", "0 lemma a 1 [x={{x}] 4", "0 lemma a 1 [x ={x}] 4", "0 lemma a 1 [x={y}, x] 4",
		"0 far x 1 {x}", "0 far x {x} 4", "0 far x -1 {x} 4", "0 far 1 {x} 4", "0 far x 1 x 4", "0 far x 1 {x} -4",
	}
	// a text that Print would write with more than MaxText bytes
	return append(bad, "0 via {"+strings.Repeat("1/"+strings.Repeat("7", 600)+"+", 6)+strings.Repeat("x+", 150)+"x}")
}

// P7.8: lines that are not lines of Print, as the first one and behind others.
func TestParseLines(t *testing.T) {
	for _, line := range badLines() {
		expectParse(t, line+"\n", 1, api.ErrSyntax)
		expectParse(t, line+"\n1 range 5\n1 range 5\n", 1, api.ErrSyntax)
		expectParse(t, line, 1, api.ErrSyntax)
		next := line
		if rest, ok := strings.CutPrefix(line, "0 "); ok {
			next = "1 " + rest
		} else if rest, ok := strings.CutPrefix(line, "1 "); ok {
			next = "2 " + rest
		}
		expectParse(t, "0 turn x 0\n"+next+"\n2 range 5\n2 range 5\n", 2, api.ErrSyntax)
		expectParse(t, "0 cut x 0\n1 range 5\n"+next+"\n2 range 5\n2 range 5\n", 3, api.ErrSyntax)
	}
	for _, full := range fullSteps() { // fields that are missing, doubled or exchanged
		text := lines(full, 0)
		first, rest, _ := strings.Cut(text, "\n")
		words := parts(first)
		for i := range words {
			for _, list := range [][]string{slices.Delete(slices.Clone(words), i, i+1), slices.Insert(slices.Clone(words), i, words[i]), append(append(slices.Clone(words[:i]), words[i+1:]...), words[i])} {
				line := strings.Join(list, " ")
				if _, ok := isLine(line, 0); !ok {
					expectParse(t, line+"\n"+rest, 1, api.ErrSyntax)
				}
			}
			for _, mark := range []string{" ", "\t", "0", "-", "[", "]", "{", "}", ",", "\r"} {
				list := slices.Clone(words)
				list[i] = mark + list[i]
				expectParse(t, strings.Join(list, " ")+"\n"+rest, 1, api.ErrSyntax)
			}
		}
	}
}

// P7.8: depths that are not possible, missing and superfluous lines.
func TestParseDepths(t *testing.T) {
	for text, at := range map[string]int{
		"":                                   1,
		"\n":                                 1,
		"0 range 8":                          1,
		"0 range 8\n\n":                      2,
		"0 range 8\n ":                       2,
		"0 range 8\n0 range 8\n":             2,
		"0 range 8\n1 range 8\n":             2,
		"0 range 8\n0 range 8":               2,
		"0 range 8\nx":                       2,
		"1 range 8\n":                        1,
		"0 turn x 0\n":                       2,
		"0 turn x 0":                         1,
		"0 turn x 0\n0 range 8\n":            2,
		"0 turn x 0\n2 range 8\n":            2,
		"0 turn x 0\n1 range 8":              2,
		"0 turn x 0\n1 range 8\n1 range 8\n": 3,
		"0 turn x 0\n1 range 8\n2 range 8\n": 3,
		"0 cut x 0\n":                        2,
		"0 cut x 0\n1 range 8\n":             3,
		"0 cut x 0\n1 range 8\n2 range 8\n":  3,
		"0 cut x 0\n1 range 8\n0 range 8\n":  3,
		"0 cut x 0\n1 turn x 0\n1 range 8\n": 3,
		"0 cut x 0\n1 turn x 0\n2 range 8\n": 4,
		"0 cut x 0\n1 turn x 0\n3 range 8\n": 3,
		"0 cut x 0\n1 turn x 0\n2 range 8\n2 range 8\n": 4,
		"0 cut x 0\n1 range 8\n1 cut x 0\n2 range 8\n":  5,
		"0 cut x 0\n1 range 8\n1 range 8\n1 range 8\n":  4,
	} {
		expectParse(t, text, at, api.ErrSyntax)
	}
	for _, proof := range proofs() { // every beginning of a proof ends too early
		text := lines(pf(proof), 0)
		for i := range len(text) {
			n := strings.Count(text[:i], "\n")
			expectParse(t, text[:i], n+1, api.ErrSyntax)
		}
		n := strings.Count(text, "\n")
		expectParse(t, text+text, n+1, api.ErrSyntax)
		expectParse(t, text+"\n", n+1, api.ErrSyntax)
	}
}

// P7.8: texts with too many bytes, steps or levels.
func TestParseLimits(t *testing.T) {
	line := "1 range 5\n"
	deep := func(n int, last string) string { // a chain of n steps, and a last line
		var text strings.Builder
		for i := range n {
			text.WriteString(strconv.Itoa(i) + " turn x 0\n")
		}
		return text.String() + last
	}
	for what, c := range map[string]struct {
		text string
		at   int
		err  api.Errno
	}{
		"MaxLevels + 2":                       {deep(41, "41 range 8\n"), 42, api.ErrLimit},
		"a bad line at MaxLevels + 2":         {deep(41, "41 range\n"), 42, api.ErrSyntax},
		"a wrong depth at MaxLevels + 2":      {deep(41, "40 range 8\n"), 42, api.ErrSyntax},
		"a line without its end there":        {deep(41, "41 range 8"), 42, api.ErrSyntax},
		"the end in front of MaxLevels + 2":   {deep(41, ""), 42, api.ErrSyntax},
		"more lines below MaxLevels + 2":      {deep(60, "60 range 8\n"), 42, api.ErrLimit},
		"a bad line below MaxLevels + 2":      {deep(60, "?\n"), 42, api.ErrLimit},
		"2001 steps":                          {lines(bush(2001), 0), 2001, api.ErrLimit},
		"2003 steps":                          {lines(bush(2003), 0), 2001, api.ErrLimit},
		"2001 steps, the last one bad":        {strings.TrimSuffix(lines(bush(2001), 0), "8\n") + "x\n", 2001, api.ErrSyntax},
		"2001 steps, the last one cut off":    {strings.TrimSuffix(lines(bush(2001), 0), "\n"), 2001, api.ErrSyntax},
		"2000 of 2001 steps":                  {lines(bush(2001), 0)[:strings.LastIndex(strings.TrimSuffix(lines(bush(2001), 0), "\n"), "\n")+1], 2001, api.ErrSyntax},
		"a line behind 2000 steps":            {lines(st("turn x 0", bush(1999)), 0) + line, 2001, api.ErrSyntax},
		"two lines behind 2000 steps":         {lines(st("turn x 0", bush(1999)), 0) + line + line, 2001, api.ErrSyntax},
		"a bad line in front of too many":     {"0 cut x 0\n1 range x\n" + strings.ReplaceAll(lines(bush(2001), 0), "\n", "\n1"), 2, api.ErrSyntax},
		"too many bytes":                      {lines(bush(1999), 0) + strings.Repeat("?", api.MaxBytes), 0, api.ErrLimit},
		"too many bytes of nothing":           {strings.Repeat("\n", api.MaxBytes+1), 0, api.ErrLimit},
		"MaxBytes bytes of nothing":           {strings.Repeat("\n", api.MaxBytes), 1, api.ErrSyntax},
		"MaxBytes bytes of a line":            {strings.Repeat("0", api.MaxBytes), 1, api.ErrSyntax},
		"MaxBytes bytes of an integer":        {"0 range " + strings.Repeat("1", api.MaxBytes-9) + "\n", 1, api.ErrSyntax},
		"MaxBytes bytes of a number":          {"0 turn x " + strings.Repeat("1", api.MaxBytes-10) + "\n", 1, api.ErrSyntax},
		"MaxBytes bytes of an expression":     {"0 via {" + strings.Repeat("(", api.MaxBytes-9) + "}\n", 1, api.ErrSyntax},
		"MaxBytes bytes of values":            {"0 zero [x=1" + strings.Repeat(", x=1", (api.MaxBytes-20)/5) + "] 8\n", 1, api.ErrSyntax},
		"MaxBytes bytes of binds":             {"0 lemma a 1 [x={1}" + strings.Repeat(", x={1}", (api.MaxBytes-40)/7) + "] 8\n1 range 8\n", 1, api.ErrSyntax},
		"MaxBytes bytes of lines":             {"0 range 8\n" + strings.Repeat("1 range 8\n", api.MaxBytes/10-1), 2, api.ErrSyntax},
		"MaxBytes + 1 bytes that would parse": {fat(api.MaxBytes + 1), 0, api.ErrLimit},
	} {
		s, at, err := check.Parse(c.text)
		if at != c.at || err != c.err || !isZero(s) {
			t.Errorf("Parse of %s: error %d at %d; want error %d at %d", what, err, at, c.err, c.at)
		}
	}
	for what, text := range map[string]string{"MaxLevels + 1": deep(40, "40 range 8\n"), "2000 steps": lines(st("turn x 0", bush(1999)), 0), "MaxBytes bytes": fat(api.MaxBytes)} {
		s, at, err := check.Parse(text)
		if at != 0 || err != api.OK || lines(s, 0) != text {
			t.Errorf("Parse of %s: error %d at %d", what, err, at)
		}
	}
}

// fat returns the text of a proof of this length: a tree of cuts whose leaves have long expressions.
func fat(length int) string {
	term := "1/1" + strings.Repeat("0", 500)
	leaf := func(depth, size int) string { // a step with an expression of this many bytes, and its kid
		terms := size / (len(term) + 3)
		rest := size - terms*(len(term)+3)
		if rest == 0 {
			terms, rest = terms-1, len(term)+3
		}
		return strconv.Itoa(depth) + " same {" + strings.Repeat(term+" + ", terms) + "1" + strings.Repeat("0", rest-1) + "} 8\n" + strconv.Itoa(depth+1) + " range 8\n"
	}
	var grow func(depth, length int) string
	grow = func(depth, length int) string {
		if least := len(leaf(depth, 1)); length-least < 3600 {
			return leaf(depth, length-least+1)
		}
		head := strconv.Itoa(depth) + " cut x 0\n"
		half := (length - len(head)) / 2
		return head + grow(depth+1, half) + grow(depth+1, length-len(head)-half)
	}
	return grow(0, length)
}

// isLine reports whether a line is one of Print of a step at this level, in another way than Parse decides it, and returns its number of kids.
func isLine(line string, level int) (kids int, ok bool) {
	defer func() {
		if recover() != nil {
			kids, ok = 0, false
		}
	}()
	_, rest, found := strings.Cut(line, " ")
	s := st(rest)
	ints := slices.Min([]int{s.K, s.N, s.Prec, s.Ver})
	kids, s.Kids = len(s.Kids), nil
	if !found || ints < 0 || lines(s, level) != line+"\n" {
		return 0, false
	}
	for range kids {
		s.Kids = append(s.Kids, st("range 1"))
	}
	_, err := check.Print(s) // names, and numbers of elements
	return kids, err == api.OK
}

// parseModel returns what Parse has to return for a text that is not too long.
func parseModel(text string) (at int, err api.Errno) {
	open := []int{0} // the levels of the steps that are still needed, the next one last
	n := 0
	for len(text) > 0 {
		n++
		line, rest, ok := strings.Cut(text, "\n")
		if !ok || len(open) == 0 {
			return n, api.ErrSyntax
		}
		level := open[len(open)-1]
		kids, right := isLine(line, level)
		switch {
		case !right:
			return n, api.ErrSyntax
		case n > api.MaxSteps || level > api.MaxLevels:
			return n, api.ErrLimit
		}
		text, open = rest, append(open[:len(open)-1], slices.Repeat([]int{level + 1}, kids)...)
	}
	if len(open) > 0 {
		return n + 1, api.ErrSyntax
	}
	return 0, api.OK
}

// P7.8: texts in which bytes and lines are changed, against a model; what is accepted is what Print writes.
func TestParseModel(t *testing.T) {
	r := rand.New(rand.NewSource(9))
	var list []string
	for _, s := range fullSteps() {
		list = append(list, lines(s, 0))
	}
	for _, proof := range proofs() {
		list = append(list, lines(pf(proof), 0))
	}
	accepted := 0
	for range 12000 {
		b := []byte(list[r.Intn(len(list))])
		for range r.Intn(3) {
			i := r.Intn(len(b))
			switch r.Intn(4) {
			case 0:
				b = slices.Delete(b, i, i+1)
			case 1:
				b = slices.Insert(b, i, []byte("0129 xy-/=[]{},\n\x00")[r.Intn(17)])
			case 2:
				b[i] = []byte("0129 xy-/=[]{},\n\x00")[r.Intn(17)]
			case 3:
				text := strings.SplitAfter(string(b), "\n")
				j := r.Intn(len(text))
				text[j] = text[r.Intn(len(text))]
				b = []byte(strings.Join(text, ""))
			}
			if len(b) == 0 {
				b = []byte("0")
			}
		}
		text := string(b)
		wantAt, wantErr := parseModel(text)
		s, at, err := check.Parse(text)
		if at != wantAt || err != wantErr || err != api.OK && !isZero(s) {
			t.Errorf("Parse(%q): error %d at %d, want error %d at %d", text, err, at, wantErr, wantAt)
		}
		if err == api.OK {
			accepted++
			if again, err := check.Print(s); again != text || err != api.OK {
				t.Errorf("Print of Parse(%q): %q, error %d", text, again, err)
			}
		}
	}
	if accepted < 3000 || accepted > 9000 {
		t.Errorf("%d texts are accepted", accepted)
	}
}
