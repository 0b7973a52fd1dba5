package check

import (
	"strconv"
	"strings"

	"inequality/api"
	"inequality/expr"
	"inequality/halt"
	"inequality/number"
)

// lineText returns the text of a step that is well formed and writable, at this level. It ends the operation if an expression is too long.
func lineText(level int, s api.Step) string {
	words := []string{strconv.Itoa(level), Name(s.Rule)}
	for _, f := range used(s.Rule) {
		words = append(words, f.text(s))
	}
	return strings.Join(words, " ")
}

// ownText returns the text of a name.
func ownText(name string) string {
	return name
}

// numberText returns the text of a number that is not large.
func numberText(x api.Rat) string {
	return halt.Must(number.Format(x))
}

// bracedText returns the text of an expression in braces.
func bracedText(e api.Expr) string {
	return "{" + halt.Must(expr.Print(e)) + "}"
}

// pointText returns the text of a point.
func pointText(list []api.Value) string {
	return listText(list, func(v api.Value) string { return v.Name + "=" + numberText(v.Num) })
}

// bindsText returns the text of binds.
func bindsText(list []api.Bind) string {
	return listText(list, func(b api.Bind) string { return b.Name + "=" + bracedText(b.E) })
}

// listText returns the text of a list.
func listText[T any](list []T, text func(x T) string) string {
	var texts []string
	for _, x := range list {
		texts = append(texts, text(x))
	}
	return "[" + strings.Join(texts, ", ") + "]"
}

// line is what has not been read yet of a line that has been given a space at its end. What is read is held against the line afterwards, so it does not matter what stands between the parts that are taken. Reading ends at the first part that is missing.
type line struct {
	rest string
}

// until takes the text in front of an ending, and the ending.
func (l *line) until(ending string) string {
	text, rest, ok := strings.Cut(l.rest, ending)
	halt.Unless(ok, api.ErrSyntax)
	l.rest = rest
	return text
}

// word takes a word and the space behind it.
func (l *line) word() string {
	return l.until(" ")
}

// integer takes an integer.
func (l *line) integer() int {
	n, err := strconv.Atoi(l.word())
	halt.Unless(err == nil, api.ErrSyntax)
	return n
}

// number takes a number.
func (l *line) number() api.Rat {
	return halt.Must(number.Parse(l.word()))
}

// expr takes an expression in braces.
func (l *line) expr() api.Expr {
	l.until("{")
	e := parsed(l.until("}"))
	l.until(" ")
	return e
}

// point takes a list of values.
func (l *line) point() []api.Value {
	return list(l, "=", ", ", func(name, text string) api.Value {
		return api.Value{Name: name, Num: halt.Must(number.Parse(text))}
	})
}

// binds takes a list of binds.
func (l *line) binds() []api.Bind {
	return list(l, "={", "}, ", func(name, text string) api.Bind {
		return api.Bind{Name: name, E: parsed(text)}
	})
}

// list takes a list in brackets, whose elements consist of a name and another text behind a sign and in front of an ending.
func list[T any](l *line, sign, ending string, element func(name, text string) T) []T {
	l.until("[")
	text := l.until("]")
	l.until(" ")
	if text == "" {
		return nil
	}
	var all []T
	inner := &line{text + ", "}
	for inner.rest != "" {
		name := inner.until(sign)
		all = append(all, element(name, inner.until(ending)))
	}
	return all
}

// parsed returns the expression of a text, and ends the reading if there is none.
func parsed(text string) api.Expr {
	e, _, err := expr.Parse(text)
	return halt.Must(e, err)
}

// readLine returns the step of a line at this level, still without its kids, and true, or false if Print writes no such line.
func readLine(text string, level int) (api.Step, bool) {
	s, err := halt.Run(func() api.Step {
		l := &line{text + " "}
		l.word() // the level, which is known
		rule, ok := Find(l.word())
		halt.Unless(ok, api.ErrSyntax)
		s := api.Step{Rule: rule}
		for _, f := range used(rule) {
			f.read(&s, l)
			halt.Unless(f.isRight(s) && f.isWritable(s), api.ErrSyntax)
		}
		halt.Unless(lineText(level, s) == text, api.ErrSyntax)
		return s
	})
	return s, err == api.OK
}

// reader reads a proof line by line, and ends at the first line that has an error.
type reader struct {
	rest string
	line int // the number of lines that have been taken, the one with an error included
}

// whole reads a proof that is the whole text.
func (r *reader) whole() api.Step {
	s := r.step(0)
	if r.rest != "" {
		r.line++
		halt.Unless(false, api.ErrSyntax)
	}
	return s
}

// step reads a step at this level and its kids.
func (r *reader) step(level int) api.Step {
	text, rest, ok := strings.Cut(r.rest, "\n")
	r.rest = rest
	r.line++
	halt.Unless(ok, api.ErrSyntax)
	s, ok := readLine(text, level)
	halt.Unless(ok, api.ErrSyntax)
	halt.Unless(r.line <= api.MaxSteps && level <= api.MaxLevels, api.ErrLimit)
	rule, _ := ruleOf(s.Rule)
	for range rule.kids {
		kid := r.step(level + 1)
		s.Kids = append(s.Kids, kid)
	}
	return s
}
