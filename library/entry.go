package library

import (
	"slices"

	"inequality/api"
	"inequality/check"
	"inequality/claim"
	"inequality/enclose"
	"inequality/expr"
	"inequality/halt"
	"inequality/interval"
)

// isProved reports whether the proof of an entry is right, with the entries in front of it as lemmas. Then these have all keys that it uses.
func isProved(e api.Entry, front []api.Entry) bool {
	return check.Check(front, e.Claim, e.Proof).Err == api.OK
}

// isSame reports whether two entries with the same key have equal claims and equal proofs.
func isSame(d, e api.Entry) bool {
	same, _ := claim.Equal(d.Claim, e.Claim) // claims that are not valid are not equal to any
	return same && check.Equal(d.Proof, e.Proof)
}

// covers reports whether the valid claim c follows at once from the valid claim m: it states no more, for no other points.
func covers(m, c api.Claim) bool {
	if !implies(goal(m), goal(c)) {
		return false
	}
	for _, s := range m.Box {
		a, ok := enclose.Find(c.Box, s.Name)
		if !ok || !halt.Must(interval.Inside(a, s.Iv)) {
			return false
		}
	}
	for _, k := range m.Conds {
		if !slices.ContainsFunc(c.Conds, func(l api.Cond) bool { return implies(l, k) }) {
			return false
		}
	}
	return true
}

// goal returns the inequality that c states.
func goal(c api.Claim) api.Cond {
	return api.Cond{E: c.Goal, Strict: c.Strict}
}

// implies reports whether k is l, or the strict form of it.
func implies(k, l api.Cond) bool {
	return (k.Strict || !l.Strict) && halt.Must(expr.Equal(k.E, l.E))
}
