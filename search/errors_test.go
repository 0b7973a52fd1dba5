package search_test

import (
	"fmt"
	"reflect"
	"slices"
	"testing"

	"inequality/api"
	"inequality/search"
)

// results returns what each function on a claim returns beside its error, and the error.
func results(c api.Claim, p api.Plan) map[string]func() ([]any, api.Errno) {
	return map[string]func() ([]any, api.Errno){
		"Candidates": func() ([]any, api.Errno) { a, err := search.Candidates(c); return []any{a}, err },
		"Refute":     func() ([]any, api.Errno) { a, b, err := search.Refute(c, p); return []any{a, b}, err },
		"Attempt":    func() ([]any, api.Errno) { a, err := search.Attempt(c, p); return []any{a}, err },
		"Prove":      func() ([]any, api.Errno) { a, err := search.Prove(c, p); return []any{a}, err },
		"New":        func() ([]any, api.Errno) { a, err := search.New(c, p); return []any{a}, err },
	}
}

// isZero reports whether a value is zero, where an empty list is, too.
func isZero(v reflect.Value) bool {
	switch v.Kind() {
	case reflect.Slice:
		return v.Len() == 0
	case reflect.Struct:
		for i := range v.NumField() {
			if !isZero(v.Field(i)) {
				return false
			}
		}
		return true
	}
	return v.IsZero()
}

// P8.1: of several errors, the first one in the order of the chapter is returned, and every other result is zero.
func TestOrderOfErrors(t *testing.T) {
	claims := map[api.Errno][]api.Claim{api.OK: {cl("x > 0 for x in [0, 1] where x >= 1/2"), cl("1 > 0"), cl(sinus)}, api.ErrClaim: badClaims(), api.ErrSize: largeBoxes()}
	plans := map[api.Errno][]api.Plan{api.OK: goodPlans(), api.ErrBudget: badPlans()}
	for claimErr, list := range claims {
		for planErr, plans := range plans {
			for _, c := range list {
				for _, p := range plans {
					for name, call := range results(c, p) {
						want := api.OK
						if claimErr == api.ErrSize && (name == "Candidates" || name == "Refute") {
							want = claimErr
						}
						if planErr != api.OK && name != "Candidates" {
							want = planErr
						}
						if claimErr == api.ErrClaim {
							want = claimErr
						}
						got, err := call()
						if err != want {
							t.Errorf("%s(%s, %v): error %d, want %d", name, cut(fmt.Sprint(c.Box)), p, err, want)
						}
						for _, r := range got {
							if v := reflect.ValueOf(r); want != api.OK && !isZero(v) {
								t.Errorf("%s(%v): %v with the error %d", name, p, r, err)
							}
						}
					}
				}
			}
		}
	}
}

// addresses adds the addresses of the arrays of all slices in v to seen, and reports whether none was there.
func addresses(v reflect.Value, seen map[uintptr]bool) bool {
	fresh := true
	switch v.Kind() {
	case reflect.Interface:
		if !v.IsNil() {
			return addresses(v.Elem(), seen)
		}
	case reflect.Slice:
		if v.Cap() > 0 {
			fresh = !seen[v.Pointer()]
			seen[v.Pointer()] = true
		}
		for i := range v.Len() {
			fresh = addresses(v.Index(i), seen) && fresh
		}
	case reflect.Struct:
		for i := range v.NumField() {
			fresh = addresses(v.Field(i), seen) && fresh
		}
	}
	return fresh
}

// spoil changes all numbers and names in v, as a caller may do with a result.
func spoil(v reflect.Value) {
	switch v.Kind() {
	case reflect.Slice:
		for i := range v.Len() {
			spoil(v.Index(i))
		}
	case reflect.Struct:
		for i := range v.NumField() {
			spoil(v.Field(i))
		}
	case reflect.Uint32:
		v.SetUint(v.Uint() + 1)
	case reflect.Int:
		v.SetInt(v.Int() + 1)
	case reflect.String:
		v.SetString(v.String() + "q")
	case reflect.Bool:
		v.SetBool(!v.Bool())
	}
}

// memoryClaims are claims with numbers that have words, whose searches are of all kinds.
func memoryClaims() []api.Claim {
	list := []api.Claim{cl("max(x, 1/3) + 1/3 > x for x in [1/3, 7/3], y in [1/3, 7/3] where y >= 1/3"), cl("x - 1/3 - sin(x - 1/3) >= 0 for x in [1/3, inf)"), cl("exp(x - 1/3) >= 2/3 + x for x in [1/3, 5/3]"), cl("x > 1/3 for x in [1/2, 7/3], y in [1/3, inf)"), cl("x + 5/3 > y for x in [1/3, 7/3], y in (-inf, 4/3] where x >= 2/3"), cl("x^2 + 1/3 > 0 for x in [1/3, 7/3] where x > 10/3"), cl("x - 1/3 * x^3 - 1/9 * y > -1/5 for x in [0, 4/3], y in [1/3, inf) where y <= 7/3"), cl("3 * sin(x) + cos(x) < 10/3 for x in (-inf, inf)")}
	for _, a := range attempts {
		if len(list) < 60 {
			list = append(list, cl(a.claim))
		}
	}
	for _, c := range slices.Clone(list) {
		list = append(list, disguisedClaim(c))
	}
	return list
}

// R4: arguments are neither changed nor kept, and results are new memory, of which no two parts share any.
func TestMemory(t *testing.T) {
	p := plan(30, 8, 10)
	for _, c := range memoryClaims() {
		before := fmt.Sprint(c)
		for name, call := range results(c, p) {
			if name == "New" {
				continue
			}
			got, _ := call()
			if fmt.Sprint(c) != before {
				t.Errorf("%s changes its argument", name)
			}
			seen := map[uintptr]bool{}
			addresses(reflect.ValueOf(c), seen)
			if !addresses(reflect.ValueOf(got), seen) {
				t.Errorf("%s of %s shares memory", name, claimText(c))
			}
		}
	}
}

// R4: a search keeps no arguments, and gives out nothing that it keeps.
func TestSearchMemory(t *testing.T) {
	p := plan(30, 8, 10)
	for _, c := range memoryClaims() {
		own := begin(t, c, p)
		arg := cl("x > 0 for x in [0, 1]")
		if text := claimText(c); len(text) < api.MaxText {
			arg = cl(text)
		}
		s := begin(t, arg, p)
		spoil(reflect.ValueOf(&arg).Elem())
		for !own.Over() {
			i := own.Free()[0]
			task := own.Tasks()[i].Claim
			m, err := search.Attempt(task, p)
			if err != api.OK {
				t.Fatalf("Attempt: error %d", err)
			}
			post(t, own, i, p) // the same move in other memory, which is left as it is
			other := s.Copy()
			s.Post(i, m)
			other.Post(i, m)
			spoil(reflect.ValueOf(&m).Elem())
			for _, search := range []*search.Search{s, other} {
				seen := map[uintptr]bool{}
				for range 2 {
					tasks, free, move, outcome := search.Tasks(), search.Free(), told(search.Move(i)), search.Outcome()
					for _, result := range []any{tasks, free, move, outcome} {
						if !addresses(reflect.ValueOf(result), seen) {
							t.Errorf("a search for %s gives out what it keeps", claimText(c))
						}
					}
					spoil(reflect.ValueOf(tasks))
					spoil(reflect.ValueOf(free))
					spoil(reflect.ValueOf(&move).Elem())
					spoil(reflect.ValueOf(&outcome).Elem())
				}
				if got, want := stateText(search), stateText(own); got != want {
					t.Fatalf("a search for %s becomes\n%s\nwant\n%s", claimText(c), got, want)
				}
			}
		}
	}
}

// told returns the move of a task that has one.
func told(m api.Move, ok bool) api.Move {
	if !ok {
		panic("no move")
	}
	return m
}
