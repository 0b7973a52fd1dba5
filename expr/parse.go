package expr

import (
	"inequality/api"
	"inequality/syntax"
)

// Parse returns the expression of a text and 0, or the offset of an error.
func Parse(s string) (api.Expr, int, api.Errno) {
	return syntax.Read(s, func(r *syntax.Reader) api.Expr {
		e := r.Expr()
		r.Close()
		e, err := result(e)
		r.Unless(err == api.OK, 0, err)
		return e
	})
}
