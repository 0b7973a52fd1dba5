package claim

import (
	"strings"

	"inequality/api"
	"inequality/expr"
	"inequality/halt"
	"inequality/number"
)

// Print returns the text of c.
func Print(c api.Claim) (string, api.Errno) {
	return halt.Run(func() string {
		c := read(c)
		text := condText(goal(c)) + listText(" for ", c.Box, sideText) + listText(" where ", c.Conds, condText)
		halt.Unless(len(text) <= api.MaxText, api.ErrLimit)
		return text
	})
}

// condText returns the text of an inequality.
func condText(k api.Cond) string {
	text := halt.Must(expr.Print(k.E))
	if k.Strict {
		return text + " > 0"
	}
	return text + " >= 0"
}

// sideText returns the text of a side.
func sideText(s api.Side) string {
	low, high := "(-inf", "inf)"
	if !s.Iv.LoInf {
		low = "[" + halt.Must(number.Format(s.Iv.Lo))
	}
	if !s.Iv.HiInf {
		high = halt.Must(number.Format(s.Iv.Hi)) + "]"
	}
	return s.Name + " in " + low + ", " + high
}

// listText returns the texts of the elements of a list, behind an opening, or an empty text if there are none.
func listText[T any](opening string, list []T, text func(x T) string) string {
	if len(list) == 0 {
		return ""
	}
	var texts []string
	for _, x := range list {
		texts = append(texts, text(x))
	}
	return opening + strings.Join(texts, ", ")
}
