package fresh_test

import (
	"fmt"
	"reflect"
	"testing"

	"inequality/api"
	"inequality/fresh"
)

// number returns a number that is not canonical, with words beyond those that are used.
func number(n uint32) api.Rat {
	return api.Rat{Neg: true, Num: append(make([]uint32, 0, 5), n, 0), Den: append(make([]uint32, 0, 5), 2*n, n, 0)}
}

// expression returns an expression that need not be valid.
func expression(n uint32) api.Expr {
	leaf := api.Expr{Op: 77, Arg: -1, Num: number(n), Name: "a"}
	return api.Expr{Op: 3, Arg: 5, Num: number(n + 1), Name: "b", Kids: append(make([]api.Expr, 0, 4), leaf, leaf, api.Expr{})}
}

// claim returns a claim that need not be valid.
func claim(n uint32) api.Claim {
	box := []api.Side{{Name: "x", Iv: api.Interval{Lo: number(n), Hi: number(n + 1), LoInf: true}}, {Name: "", Iv: api.Interval{HiInf: true}}}
	return api.Claim{Goal: expression(n), Strict: true, Box: box, Conds: []api.Cond{{E: expression(n + 2), Strict: true}, {}}}
}

// step returns a step that has all fields.
func step(n uint32) api.Step {
	s := api.Step{Rule: 8, Name: "x", Other: "y", At: number(n), K: 1, N: 2, Prec: 3, E: expression(n), Point: []api.Value{{Name: "z", Num: number(n)}, {}}, Entry: "e", Ver: 4, Args: []api.Bind{{Name: "v", E: expression(n)}, {}}}
	s.Kids = []api.Step{s, {}}
	return s
}

// addresses adds the addresses of the arrays of all slices in v to seen, and reports whether none was there.
func addresses(v reflect.Value, seen map[uintptr]bool) bool {
	unseen := true
	switch v.Kind() {
	case reflect.Slice:
		if v.Cap() > 0 {
			unseen = !seen[v.Pointer()]
			seen[v.Pointer()] = true
		}
		for i := range v.Len() {
			unseen = addresses(v.Index(i), seen) && unseen
		}
	case reflect.Struct:
		for i := range v.NumField() {
			unseen = addresses(v.Field(i), seen) && unseen
		}
	}
	return unseen
}

// Copies are equal in every field, and neither they nor any two parts of them share memory with anything.
func TestCopies(t *testing.T) {
	kid := step(5)
	shared := step(6)
	shared.Kids = []api.Step{kid, kid, {}}
	point := []api.Value{{Name: "x", Num: number(3)}, {Name: "x", Num: number(4)}, {}}
	entry := api.Entry{Name: "e", Ver: -4, Claim: claim(8), Proof: shared}
	entries := []api.Entry{entry, entry, {}}
	move := api.Move{State: 2, Step: step(9), Kids: []api.Claim{claim(1), claim(2), {}}, Point: point}
	for _, pair := range [][2]any{
		{number(7), fresh.Number(number(7))}, {api.Rat{}, fresh.Number(api.Rat{})}, {expression(7), fresh.Expr(expression(7))}, {claim(7), fresh.Claim(claim(7))}, {api.Claim{}, fresh.Claim(api.Claim{})}, {shared, fresh.Step(shared)}, {api.Step{}, fresh.Step(api.Step{})}, {point, fresh.Point(point)}, {entry, fresh.Entry(entry)}, {entries, fresh.Entries(entries)}, {move, fresh.Move(move)}, {api.Move{}, fresh.Move(api.Move{})},
	} {
		if !reflect.DeepEqual(pair[0], pair[1]) {
			t.Errorf("the copy of %v is %v", pair[0], pair[1])
		}
		before := fmt.Sprint(pair[0])
		seen := map[uintptr]bool{}
		addresses(reflect.ValueOf(pair[0]), seen)
		if !addresses(reflect.ValueOf(pair[1]), seen) {
			t.Errorf("the copy of %v shares memory", before)
		}
	}
}
