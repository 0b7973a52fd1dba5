package expr

import (
	"strconv"
	"strings"

	"inequality/api"
	"inequality/elem"
	"inequality/number"
)

// Levels of operators: an operand of a level lower than its place requires is written in parentheses.
const (
	levelSum = iota + 1
	levelProduct
	levelSign
	levelPower
	levelAtom
)

// Print returns the text of e.
func Print(e api.Expr) (string, api.Errno) {
	e, err := read(e)
	if err != api.OK {
		return "", err
	}
	return short(text(e))
}

// short returns a text, or ErrLimit if it is too long.
func short(text string) (string, api.Errno) {
	if len(text) > api.MaxText {
		return "", api.ErrLimit
	}
	return text, api.OK
}

// level returns the level of the operator at the root of e.
func level(e api.Expr) int {
	switch e.Op {
	case api.OpAdd, api.OpSub:
		return levelSum
	case api.OpMul, api.OpDiv:
		return levelProduct
	case api.OpNeg:
		return levelSign
	case api.OpPow:
		return levelPower
	}
	return levelAtom
}

// text returns the text of e, however long it is.
func text(e api.Expr) string {
	switch e.Op {
	case api.OpNum:
		s, _ := number.Format(e.Num)
		return s
	case api.OpVar:
		return e.Name
	case api.OpPi:
		return "pi"
	case api.OpNeg:
		return "-" + operand(e.Kids[0], levelSign)
	case api.OpAdd, api.OpSub, api.OpMul, api.OpDiv:
		// The operators group to the left.
		return operand(e.Kids[0], level(e)) + " " + sign(e.Op) + " " + operand(e.Kids[1], level(e)+1)
	case api.OpPow:
		return operand(e.Kids[0], levelAtom) + "^" + strconv.Itoa(e.Arg)
	}
	return opening(e) + joined(e.Kids) + ")"
}

// operand returns the text of e at a place that requires a level.
func operand(e api.Expr, place int) string {
	if level(e) < place {
		return "(" + text(e) + ")"
	}
	return text(e)
}

// sign returns the sign of a kind with two operands.
func sign(op int) string {
	switch op {
	case api.OpAdd:
		return "+"
	case api.OpSub:
		return "-"
	case api.OpMul:
		return "*"
	}
	return "/"
}

// opening returns the beginning of the text of a node whose kids stand in parentheses.
func opening(e api.Expr) string {
	switch e.Op {
	case api.OpCall:
		return elem.Name(e.Arg) + "("
	case api.OpAbs:
		return "abs("
	case api.OpMin:
		return "min("
	case api.OpMax:
		return "max("
	case api.OpIf:
		return "if("
	}
	if e.Arg == 2 {
		return "sqrt("
	}
	return "root(" + strconv.Itoa(e.Arg) + ", "
}

// joined returns the texts of expressions with commas between them.
func joined(kids []api.Expr) string {
	var texts []string
	for _, kid := range kids {
		texts = append(texts, text(kid))
	}
	return strings.Join(texts, ", ")
}
