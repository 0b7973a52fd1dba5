package expr

import "inequality/api"

// Subst returns e with variables replaced by expressions, all of them at the same time.
func Subst(e api.Expr, binds []api.Bind) (api.Expr, api.Errno) {
	e, err := read(e)
	if err != api.OK {
		return api.Expr{}, err
	}
	var names []string
	by := map[string]api.Expr{}
	for _, bind := range binds {
		names = append(names, bind.Name)
		by[bind.Name], err = read(bind.E)
		if err != api.OK {
			return api.Expr{}, err
		}
	}
	if !areNames(names) {
		return api.Expr{}, api.ErrName
	}
	return result(replace(e, by))
}

// areNames reports whether the strings of a list are names, each of them once.
func areNames(list []string) bool {
	seen := map[string]bool{}
	for _, name := range list {
		if !IsName(name) || seen[name] {
			return false
		}
		seen[name] = true
	}
	return true
}

// replace returns e with the variables that are keys replaced.
func replace(e api.Expr, by map[string]api.Expr) api.Expr {
	if e.Op == api.OpVar {
		if other, ok := by[e.Name]; ok {
			return other
		}
	}
	e.Kids = each(e.Kids, func(kid api.Expr) api.Expr { return replace(kid, by) })
	return e
}

// Swap returns e with the variables a and b exchanged.
func Swap(e api.Expr, a, b string) (api.Expr, api.Errno) {
	e, err := read(e)
	switch {
	case err != api.OK:
		return api.Expr{}, err
	case !IsName(a) || !IsName(b):
		return api.Expr{}, api.ErrName
	}
	return result(replace(e, map[string]api.Expr{a: variable(b), b: variable(a)}))
}
