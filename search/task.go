package search

import (
	"slices"
	"strings"

	"inequality/api"
	"inequality/claim"
	"inequality/enclose"
	"inequality/fresh"
)

// task is a task of a search: what is told of it, and its move.
type task struct {
	api.Task
	move  api.Move
	moved bool // it has its move
}

// kept returns a move in new memory, without the parts that no move of Attempt has: in others they may be without end.
func kept(m api.Move) api.Move {
	step := api.Step{Rule: m.Step.Rule, Name: m.Step.Name, At: m.Step.At, K: m.Step.K, N: m.Step.N, Prec: m.Step.Prec, Point: m.Step.Point}
	own := api.Move{State: m.State, Step: fresh.Step(step), Point: fresh.Point(m.Point)}
	for _, c := range m.Kids {
		kid, _ := claim.Goal(c, c.Goal, c.Strict) // the zero claim in the place of one that is not valid
		own.Kids = append(own.Kids, kid)
	}
	return own
}

// isRefuted reports whether the move is a point that refutes the claim.
func (t task) isRefuted() bool {
	return t.move.State == api.Refuted
}

// isStuck reports whether the move has neither a step nor a point.
func (t task) isStuck() bool {
	return t.move.State == api.Open && t.move.Step.Rule == 0
}

// kids returns the tasks that the move leaves, where i is the index of t itself.
func (t task) kids(i int) []task {
	var kids []task
	for child, c := range t.move.Kids {
		told := api.Task{Level: t.Level + 1, Parent: i, Child: child, Claim: c}
		kids = append(kids, task{Task: told})
	}
	return kids
}

// dropped returns the end at which the move fixes a side on the way to a kid, and true; or false if it drops no side.
func (t task) dropped(child int) (api.Value, bool) {
	step := t.move.Step
	side, _ := enclose.Find(t.Claim.Box, step.Name)
	low, high := api.Value{Name: step.Name, Num: side.Lo}, api.Value{Name: step.Name, Num: side.Hi}
	switch {
	case step.Rule == api.RuleRise, step.Rule == api.RuleCave && child == 0:
		return low, true
	case step.Rule == api.RuleFall, step.Rule == api.RuleCave:
		return high, true
	}
	return api.Value{}, false
}

// complete ends the current level, all of whose tasks have their moves. The next one begins if the search is not over.
func (s *Search) complete() {
	level := s.tasks[s.first:]
	var kids []task
	for i, t := range level {
		kids = append(kids, t.kids(s.first+i)...)
	}
	beyond := len(s.tasks)+len(kids) > s.plan.Budget || level[0].Level == s.plan.Levels
	if len(kids) == 0 || beyond || slices.ContainsFunc(level, task.isRefuted) || slices.ContainsFunc(level, task.isStuck) {
		s.over = true
		return
	}
	s.first = len(s.tasks)
	s.tasks = append(s.tasks, kids...)
}

// outcome returns the result. The search is over.
func (s *Search) outcome() api.Outcome {
	result := api.Outcome{State: api.Open, Used: len(s.tasks)}
	level := s.tasks[s.first:] // kids of its tasks are no tasks
	isOpen := func(t task) bool { return t.isStuck() || len(t.move.Kids) > 0 }
	if i := slices.IndexFunc(level, task.isRefuted); i >= 0 {
		result.State, result.Point = api.Refuted, s.point(s.first+i)
	} else if !slices.ContainsFunc(level, isOpen) {
		result.State, result.Proof = api.Proved, s.proof()
	}
	return result
}

// point returns the point that refutes task i, completed by the sides that were dropped on the way to it.
func (s *Search) point(i int) []api.Value {
	at := slices.Clone(s.tasks[i].move.Point)
	for i > 0 {
		t := s.tasks[i]
		if v, ok := s.tasks[t.Parent].dropped(t.Child); ok {
			at = append(at, v)
		}
		i = t.Parent
	}
	at = fresh.Point(at)
	slices.SortFunc(at, func(v, w api.Value) int { return strings.Compare(v.Name, w.Name) })
	return at
}

// proof returns the tree of the steps of all tasks.
func (s *Search) proof() api.Step {
	kids := make([][]api.Step, len(s.tasks))
	for i, t := range s.tasks {
		kids[i] = make([]api.Step, len(t.move.Kids))
	}
	for i := len(s.tasks) - 1; i > 0; i-- { // kids are behind their parents
		t := s.tasks[i]
		kids[t.Parent][t.Child] = s.proofOf(i, kids[i])
	}
	return s.proofOf(0, kids[0])
}

// proofOf returns the proof of task i from the proofs of its kids.
func (s *Search) proofOf(i int, kids []api.Step) api.Step {
	step := fresh.Step(s.tasks[i].move.Step)
	step.Kids = kids
	return step
}
