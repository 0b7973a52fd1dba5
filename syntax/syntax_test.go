package syntax_test

import (
	"slices"
	"strconv"
	"strings"
	"testing"

	"inequality/api"
	"inequality/number"
	"inequality/syntax"
)

// tokens reads the texts of the tokens of a text, up to its end.
func tokens(r *syntax.Reader) []string {
	var list []string
	for {
		at := r.At()
		t := r.Take()
		if t.Kind == syntax.End {
			return append(list, strconv.Itoa(at))
		}
		list = append(list, strconv.Itoa(at)+":"+strconv.Itoa(t.Kind)+":"+t.Text)
	}
}

// The tokens of a text depend on the signs that it may have.
func TestTokens(t *testing.T) {
	kinds := func(list ...any) []string {
		var texts []string
		for i := 0; i+2 < len(list); i += 3 {
			texts = append(texts, strconv.Itoa(list[i].(int))+":"+strconv.Itoa(list[i+1].(int))+":"+list[i+2].(string))
		}
		return append(texts, strconv.Itoa(list[len(list)-1].(int)))
	}
	for _, c := range []struct {
		text  string
		signs []string
		want  []string
	}{
		{"", nil, []string{"0"}},
		{" x1 + 2/3*for ", nil, kinds(1, syntax.Name, "x1", 4, syntax.Mark, "+", 6, syntax.Fraction, "2/3", 9, syntax.Mark, "*", 10, syntax.Mark, "for", 14)},
		{"1/x 07", nil, kinds(0, syntax.Digits, "1", 1, syntax.Mark, "/", 2, syntax.Name, "x", 4, syntax.Digits, "07", 6)},
		{"a<=b<c", []string{"<=", "<"}, kinds(0, syntax.Name, "a", 1, syntax.Mark, "<=", 3, syntax.Name, "b", 4, syntax.Mark, "<", 5, syntax.Name, "c", 6)},
		{"a<=b", []string{"<", "="}, kinds(0, syntax.Name, "a", 1, syntax.Mark, "<", 2, syntax.Mark, "=", 3, syntax.Name, "b", 4)},
	} {
		got, at, err := syntax.Read(c.text, tokens, c.signs...)
		if !slices.Equal(got, c.want) || at != 0 || err != api.OK {
			t.Errorf("tokens of %q: %q, error %d at %d; want %q", c.text, got, err, at, c.want)
		}
	}
	for text, at := range map[string]int{"a < b": 2, "x Y": 2, "a <= b": 2} {
		if got, gotAt, err := syntax.Read(text, tokens, ">"); got != nil || gotAt != at || err != api.ErrSyntax {
			t.Errorf("tokens of %q: %q, error %d at %d", text, got, err, gotAt)
		}
	}
	if _, at, err := syntax.Read(strings.Repeat(" ", api.MaxText)+"?", tokens); at != 0 || err != api.ErrLimit {
		t.Errorf("a long text: error %d at %d", err, at)
	}
}

// Expressions are read one after the other, and their variables are kept in the order of the text.
func TestExpr(t *testing.T) {
	text := "y + 1 : (x) : z * y"
	got, _, err := syntax.Read(text, func(r *syntax.Reader) []int {
		var ops []int
		for more := true; more; more = r.Accept(":") {
			e := r.Expr()
			ops = append(ops, e.Op)
		}
		r.Close()
		for _, v := range r.Vars() {
			ops = append(ops, v.At)
		}
		return ops
	}, ":")
	if want := []int{api.OpAdd, api.OpVar, api.OpMul, 0, 9, 14, 18}; !slices.Equal(got, want) || err != api.OK {
		t.Errorf("%q: %v, error %d", text, got, err)
	}
}

// A reading ends at its first error; numbers are looked at by Close.
func TestErrors(t *testing.T) {
	nines := strings.Repeat("9", 617)
	for _, c := range []struct {
		text string
		at   int
		err  api.Errno
	}{
		{"[1/2]", 0, api.OK}, {"[1/2] 3", 6, api.ErrSyntax}, {"(1)", 0, api.ErrSyntax}, {"[x", 2, api.ErrSyntax}, {"[]", 1, api.ErrSyntax}, {"[x^33 + " + nines + " + 1/0]", 11 + 617, api.ErrZero}, {"[x^33 + " + nines + "]", 8, api.ErrSize}, {"[x^33]", 3, api.ErrArg}, {"[5]", 0, api.ErrUsed},
	} {
		got, at, err := syntax.Read(c.text, func(r *syntax.Reader) string {
			r.Expect("[")
			e := r.Expr()
			r.Expect("]")
			r.Close()
			r.Unless(len(e.Num.Den) > 0, 0, api.ErrUsed)
			return "right"
		}, "[", "]")
		if at != c.at || err != c.err || (got == "right") != (err == api.OK) {
			t.Errorf("%s: %q, error %d at %d; want error %d at %d", c.text, got, err, at, c.err, c.at)
		}
	}
	v, at, err := syntax.Read("1/0", func(r *syntax.Reader) api.Rat { return r.Expr().Num })
	if x, _ := number.Sign(v); x != 0 || at != 0 || err != api.OK {
		t.Errorf("a number that is not looked at: error %d at %d", err, at)
	}
}

// The names of variables.
func TestIsName(t *testing.T) {
	for s, want := range map[string]bool{"x": true, "x1": true, "abcdefgh": true, "": false, "X": false, "1": false, "abcdefghi": false, "in": false, "pi": false, "sin": false, "x y": false, "x_": false, "é": false} {
		if syntax.IsName(s) != want {
			t.Errorf("IsName(%q) is %v", s, !want)
		}
	}
}
