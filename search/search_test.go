package search_test

import (
	"fmt"
	"slices"
	"testing"

	"inequality/api"
	"inequality/claim"
	"inequality/search"
)

// begin returns a new search.
func begin(t *testing.T, c api.Claim, p api.Plan) *search.Search {
	t.Helper()
	s, err := search.New(c, p)
	if err != api.OK || s == nil {
		t.Fatalf("New(%s, %v): error %d", claimText(c), p, err)
	}
	return s
}

// moves are the moves that were made for claims and plans. They are kept because searches repeat them.
var moves = map[string]api.Move{}

// moveFor returns the move that Attempt makes for a claim.
func moveFor(t *testing.T, c api.Claim, p api.Plan) api.Move {
	t.Helper()
	key := fmt.Sprint(claimText(c), p)
	if _, ok := moves[key]; !ok {
		m, err := search.Attempt(c, p)
		if err != api.OK {
			t.Fatalf("Attempt(%s, %v): error %d", claimText(c), p, err)
		}
		moves[key] = m
	}
	return moves[key]
}

// moveOf returns the move that Attempt makes for task i.
func moveOf(t *testing.T, s *search.Search, i int, p api.Plan) api.Move {
	t.Helper()
	return moveFor(t, s.Tasks()[i].Claim, p)
}

// post gives task i its move.
func post(t *testing.T, s *search.Search, i int, p api.Plan) {
	t.Helper()
	if err := s.Post(i, moveOf(t, s, i, p)); err != api.OK {
		t.Errorf("Post(%d): error %d", i, err)
	}
}

// stateText returns the text of all that is told of a search.
func stateText(s *search.Search) string {
	text := fmt.Sprintln(s.Free(), s.Over(), outcomeText(s.Outcome()))
	for i, task := range s.Tasks() {
		move, ok := s.Move(i)
		text += fmt.Sprintln(i, task.Level, task.Parent, task.Child, claimText(task.Claim), ok, moveText(move))
	}
	return text
}

// isZeroState reports whether a search is told to have no tasks.
func isZeroState(s *search.Search) bool {
	o := s.Outcome()
	return len(s.Tasks()) == 0 && len(s.Free()) == 0 && s.Over() && o.State == 0 && o.Used == 0 && o.Proof.Rule == 0 && len(o.Point) == 0 && s.Copy() == nil
}

// P8.5: a new search.
func TestNew(t *testing.T) {
	for _, text := range []string{"x^2 > 0 for x in [-1/3, 1] where x < 1/2", "1 > 2", "sin(x) > 3 for x in (-inf, inf)"} {
		for _, c := range []api.Claim{cl(text), disguisedClaim(cl(text))} {
			for _, p := range goodPlans() {
				s := begin(t, c, p)
				tasks := s.Tasks()
				if len(tasks) != 1 || tasks[0].Level != 0 || tasks[0].Parent != -1 || tasks[0].Child != 0 {
					t.Fatalf("New(%s): tasks %v", text, tasks)
				}
				if same, err := claim.Equal(tasks[0].Claim, c); !same || err != api.OK {
					t.Errorf("New(%s): the claim of task 0 is %s", text, claimText(tasks[0].Claim))
				}
				m, ok := s.Move(0)
				if !slices.Equal(s.Free(), []int{0}) || s.Over() || ok || moveText(m) != "stuck" {
					t.Errorf("New(%s): %s", text, stateText(s))
				}
				if o := s.Outcome(); o.State != 0 || o.Used != 0 || o.Proof.Rule != 0 || len(o.Point) > 0 {
					t.Errorf("New(%s): outcome %v", text, o)
				}
			}
		}
	}
}

// sinus is a claim whose proof has 6 levels with 1, 1, 2, 4, 4 and 4 tasks.
const sinus = "sin(x) + cos(x) < 3/2 for x in (-inf, inf)"

// sinusLevels are the numbers of tasks up to each level, with the parents of the last ones.
var sinusLevels = [][]int{{-1}, {0}, {1, 1}, {2, 2, 3, 3}, {4, 4, 7, 7}, {8, 8, 9, 11}}

// P8.5, P8.6: tasks and moves of all levels, while they are posted from the first or the last one on.
func TestLevels(t *testing.T) {
	p := plan(100, 8, 10)
	for _, last := range []bool{false, true} {
		s := begin(t, cl(sinus), p)
		first := 0
		for level, parents := range sinusLevels {
			for i, parent := range parents {
				task := s.Tasks()[first+i]
				if task.Level != level || task.Parent != parent || i > 0 && parents[i-1] == parent && task.Child != 1 || (i == 0 || parents[i-1] != parent) && task.Child != 0 {
					t.Errorf("task %d is %v", first+i, task)
				}
				if parent < 0 {
					continue
				}
				if m, ok := s.Move(parent); !ok || claimText(m.Kids[task.Child]) != claimText(task.Claim) {
					t.Errorf("the claim of task %d is %s", first+i, claimText(task.Claim))
				}
			}
			var free []int
			for i := range parents {
				free = append(free, first+i)
			}
			for len(free) > 0 {
				if got := s.Free(); !slices.Equal(got, free) || s.Over() || len(s.Tasks()) != first+len(parents) {
					t.Fatalf("free are %v, want %v", got, free)
				}
				k := 0
				if last {
					k = len(free) - 1
				}
				i := free[k]
				if _, ok := s.Move(i); ok {
					t.Errorf("task %d has a move", i)
				}
				want := moveOf(t, s, i, p)
				if err := s.Post(i, want); err != api.OK {
					t.Errorf("Post(%d): error %d", i, err)
				}
				if m, ok := s.Move(i); !ok || moveText(m) != moveText(want) {
					t.Errorf("task %d has the move %s", i, moveText(m))
				}
				if err := s.Post(i, want); err != api.ErrTask {
					t.Errorf("a second Post(%d): error %d", i, err)
				}
				free = slices.Delete(free, k, k+1)
			}
			first += len(parents)
		}
		if got := outcomeText(s.Outcome()); !s.Over() || len(s.Free()) > 0 || got != prove(t, cl(sinus), p) {
			t.Errorf("the outcome is %s", got)
		}
	}
}

// P8.6: moves for tasks that are not free change nothing.
func TestPostErrors(t *testing.T) {
	p := plan(100, 8, 10)
	s := begin(t, cl(sinus), p)
	for step := 0; ; step++ {
		for _, i := range []int{-1 << 63, -2, -1, len(s.Tasks()), len(s.Tasks()) + 1, 1<<63 - 1, 0, 1, 2, 3, 4, 5, 6, 7, 8, 9, 10, 11, 12, 13, 14, 15} {
			if slices.Contains(s.Free(), i) {
				continue
			}
			m := api.Move{State: api.Refuted}
			if i >= 0 && i < len(s.Tasks()) {
				m = moveOf(t, s, i, p)
			}
			before := stateText(s)
			if err := s.Post(i, m); err != api.ErrTask || stateText(s) != before {
				t.Errorf("Post(%d) after %d moves: error %d", i, step, err)
			}
		}
		if s.Over() {
			break
		}
		post(t, s, s.Free()[step%len(s.Free())], p)
	}
	for _, i := range []int{-1, -1 << 63, 16, 1<<63 - 1} {
		if m, ok := s.Move(i); ok || moveText(m) != "stuck" {
			t.Errorf("Move(%d) is %v", i, m)
		}
	}
}

// P8.5: nil and zero searches.
func TestNoSearch(t *testing.T) {
	for _, s := range []*search.Search{nil, {}} {
		for _, i := range []int{-1, 0, 1} {
			if m, ok := s.Move(i); ok || moveText(m) != "stuck" {
				t.Errorf("Move(%d) is %v", i, m)
			}
			if err := s.Post(i, api.Move{}); err != api.ErrTask {
				t.Errorf("Post(%d): error %d", i, err)
			}
		}
		if !isZeroState(s) {
			t.Errorf("%v is not zero", s)
		}
	}
}

// P8.5: a copy behaves like the search, and neither notices what becomes of the other one.
func TestCopy(t *testing.T) {
	p := plan(100, 8, 10)
	for _, text := range []string{sinus, "log(x) + 5 > 0 for x in [0, 1]", "abs(x) + abs(y) >= max(x, y) for x in [-1, 1], y in [-1, 1]"} {
		s := begin(t, cl(text), p)
		var copies []*search.Search
		var states []string
		for !s.Over() {
			copies, states = append(copies, s.Copy()), append(states, stateText(s))
			post(t, s, slices.Max(s.Free()), p)
		}
		end := stateText(s)
		copies, states = append(copies, s.Copy()), append(states, end)
		for i, c := range copies {
			if got := stateText(c); got != states[i] {
				t.Fatalf("copy %d of %s is\n%s", i, text, cut(got))
			}
			again := c.Copy()
			for !c.Over() {
				post(t, c, c.Free()[0], p)
			}
			if got := stateText(c); got != end {
				t.Errorf("copy %d of %s becomes\n%s", i, text, cut(got))
			}
			if stateText(again) != states[i] || stateText(s) != end {
				t.Errorf("copy %d of %s is not independent", i, text)
			}
		}
	}
}

// P8.5: two searches that were the same go on in different ways.
func TestCopyApart(t *testing.T) {
	p := plan(100, 8, 10)
	s := begin(t, cl(sinus), p)
	for len(s.Free()) != 4 {
		post(t, s, s.Free()[0], p)
	}
	other := s.Copy()
	post(t, s, s.Free()[0], p)
	post(t, other, other.Free()[3], p)
	if !slices.Equal(s.Free(), []int{5, 6, 7}) || !slices.Equal(other.Free(), []int{4, 5, 6}) {
		t.Errorf("free are %v and %v", s.Free(), other.Free())
	}
	for len(s.Free()) > 0 && len(s.Tasks()) == 8 {
		post(t, s, s.Free()[0], p)
	}
	if len(s.Tasks()) != 12 || len(other.Tasks()) != 8 {
		t.Errorf("there are %d and %d tasks", len(s.Tasks()), len(other.Tasks()))
	}
}

// permutations calls visit with all orders of a list.
func permutations(list []int, visit func(order []int)) {
	var extend func(order []int)
	extend = func(order []int) {
		if len(order) == len(list) {
			visit(order)
			return
		}
		for _, i := range list {
			if !slices.Contains(order, i) {
				extend(append(slices.Clone(order), i))
			}
		}
	}
	extend(nil)
}

// P8.10: every order of the tasks of a level.
func TestOrders(t *testing.T) {
	p := plan(100, 8, 10)
	s := begin(t, cl(sinus), p)
	levels := 0
	for !s.Over() {
		var next string
		var after *search.Search
		permutations(s.Free(), func(order []int) {
			c := s.Copy()
			for k, i := range order {
				if rest := c.Free(); len(rest) != len(order)-k || c.Over() {
					t.Errorf("%v are free before the last of %v", rest, order)
				}
				post(t, c, i, p)
			}
			if got := stateText(c); next != "" && got != next {
				t.Errorf("the order %v leads to\n%s\nwant\n%s", order, got, next)
			} else {
				next, after = got, c
			}
		})
		s = after
		levels++
	}
	if levels != 6 || outcomeText(s.Outcome()) != prove(t, cl(sinus), p) {
		t.Errorf("after %d levels: %s", levels, outcomeText(s.Outcome()))
	}
}

// R1: moves that Attempt does not return, for which nothing else is promised.
func TestOtherMoves(t *testing.T) {
	p := plan(20, 8, 10)
	c := cl("x > 0 for x in [0, 1]")
	moves := []api.Move{
		{}, {State: 7}, {State: -1}, {State: api.Proved}, {State: api.Refuted}, {State: api.Refuted, Point: pt("[y=1, x=2, x=3]")}, {State: api.Refuted, Step: st("cave x 8"), Kids: []api.Claim{c, c}},
		{State: api.Proved, Kids: []api.Claim{c}}, {Step: api.Step{Rule: 99}, Kids: []api.Claim{c, c, c}}, {Step: st("rise y 8"), Kids: []api.Claim{c}}, {Step: st("cave x 8"), Kids: []api.Claim{c, c, c}}, {Step: st("cut x 1/2")}, {Step: st("cut x 1/2"), Kids: badClaims()}, {Step: st("range 8"), Kids: slices.Repeat([]api.Claim{c}, 2000)}, {Step: api.Step{Rule: -5, Kids: make([]api.Step, 3)}, Kids: []api.Claim{c}},
	}
	for _, m := range moves {
		for _, n := range moves {
			s := begin(t, c, p)
			for k := 0; !s.Over(); k++ {
				if k > 100 {
					t.Fatalf("the search with %v and %v does not end", m, n)
				}
				next := m
				if k%2 == 1 {
					next = n
				}
				if err := s.Post(slices.Max(s.Free()), next); err != api.OK {
					t.Errorf("Post: error %d", err)
				}
			}
			s.Outcome()
			if used := len(s.Copy().Tasks()); used > p.Budget || len(s.Free()) > 0 {
				t.Errorf("%v and %v lead to %d tasks", m, n, used)
			}
		}
	}
}

// cut returns a text without what is too long for a message.
func cut(text string) string {
	if len(text) > 600 {
		return text[:600] + ".."
	}
	return text
}
