package check

import (
	"slices"

	"inequality/api"
	"inequality/claim"
	"inequality/halt"
)

// replay is a proof that is replayed step by step.
type replay struct {
	lib    []api.Entry
	path   []int // of the step that is checked
	steps  int   // those that were right
	leaves []api.Claim
}

// run replays the proof s of c and returns the first error.
func (r *replay) run(c api.Claim, s api.Step) api.Errno {
	_, err := halt.Run(func() bool {
		own := halt.Must(claim.Goal(c, c.Goal, c.Strict)) // c in new memory, because it may be a leaf
		err := Shape(s)
		halt.Unless(err == api.OK, err)
		r.visit(own, s)
		return true
	})
	return err
}

// visit checks the step s for c, and then its kids. It ends at the first step that has an error.
func (r *replay) visit(c api.Claim, s api.Step) {
	claims := halt.Must(Apply(r.lib, c, s))
	r.steps++
	if len(s.Kids) == 0 {
		r.leaves = append(r.leaves, c)
	}
	for i, kid := range s.Kids {
		r.path = append(r.path, i)
		r.visit(claims[i], kid)
		r.path = r.path[:len(r.path)-1]
	}
}

// lemmaOf returns the claim of the entry that a step names, and ends the operation if there is none that can be used.
func lemmaOf(lib []api.Entry, s api.Step) api.Claim {
	i := slices.IndexFunc(lib, func(e api.Entry) bool { return e.Name == s.Entry && e.Ver == s.Ver })
	halt.Unless(i >= 0 && claim.Valid(lib[i].Claim), api.ErrLemma)
	return lib[i].Claim
}
