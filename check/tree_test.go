package check_test

import (
	"cmp"
	"fmt"
	"math/rand"
	"reflect"
	"slices"
	"strings"
	"testing"

	"inequality/api"
	"inequality/check"
)

// P7.3: Uses returns the keys of lemma steps in ascending order, each once.
func TestUses(t *testing.T) {
	lemma := func(name string, ver int, kids ...api.Step) api.Step {
		return api.Step{Rule: api.RuleLemma, Entry: name, Ver: ver, Kids: kids}
	}
	key := func(name string, ver int) api.Key { return api.Key{Name: name, Ver: ver} }
	other := st("via {x}", api.Step{Rule: api.RuleRange, Entry: "range", Ver: 7}, api.Step{Rule: 22, Entry: "none", Ver: 8})
	for what, c := range map[string]struct {
		s    api.Step
		want []api.Key
	}{
		"no lemma":          {other, nil},
		"the zero step":     {api.Step{}, nil},
		"one":               {lemma("a", 1, other), []api.Key{key("a", 1)}},
		"no kid":            {lemma("", 0), []api.Key{key("", 0)}},
		"versions":          {lemma("a", 10, lemma("a", 9, lemma("a", -1, lemma("a", 9)))), []api.Key{key("a", -1), key("a", 9), key("a", 10)}},
		"names":             {st("cut x 0", lemma("b", 1, lemma("aa", 3)), lemma("a", 5, lemma("b", 1), lemma("Z", 9), lemma("\xff", 0), lemma("aa", 2))), []api.Key{key("Z", 9), key("a", 5), key("aa", 2), key("aa", 3), key("b", 1), key("\xff", 0)}},
		"the same all over": {lemma("x", 1, lemma("x", 1), lemma("x", 1, lemma("x", 1))), []api.Key{key("x", 1)}},
		"below other rules": {st("turn x 0", st("via {x}", lemma("k", 2), st("scale {x}", st("range 1"), lemma("j", 1)))), []api.Key{key("j", 1), key("k", 2)}},
	} {
		if got := check.Uses(c.s); !slices.Equal(got, c.want) {
			t.Errorf("Uses of %s: %v, want %v", what, got, c.want)
		}
	}
	r := rand.New(rand.NewSource(2))
	for range 200 {
		s := tree(r, 5)
		keys := map[api.Key]bool{}
		var visit func(s *api.Step)
		visit = func(s *api.Step) {
			s.Entry, s.Ver = []string{"a", "b", "ab", ""}[r.Intn(4)], r.Intn(4)-1
			if s.Rule == api.RuleLemma {
				keys[key(s.Entry, s.Ver)] = true
			}
			for i := range s.Kids {
				visit(&s.Kids[i])
			}
		}
		visit(&s)
		got := check.Uses(s)
		for i, k := range got {
			if !keys[k] || i > 0 && cmp.Or(cmp.Compare(got[i-1].Name, k.Name), cmp.Compare(got[i-1].Ver, k.Ver)) >= 0 {
				t.Errorf("Uses: %v, want %v", got, keys)
			}
		}
		if len(got) != len(keys) {
			t.Errorf("Uses: %v, want %v", got, keys)
		}
	}
}

// paths calls visit with the path of each step of s, and the step.
func paths(s api.Step, path []int, visit func(path []int, t api.Step)) {
	visit(path, s)
	for i, kid := range s.Kids {
		paths(kid, append(slices.Clone(path), i), visit)
	}
}

// missing returns paths at which s has no step, though it has one in front of the last index.
func missing(s api.Step) [][]int {
	var list [][]int
	paths(s, nil, func(path []int, t api.Step) {
		for _, i := range []int{-1, len(t.Kids), len(t.Kids) + 1, -1 << 63, 1<<63 - 1} {
			list = append(list, append(slices.Clone(path), i), append(slices.Clone(path), i, 0))
		}
	})
	return list
}

// P7.3: Pick returns the step at a path.
func TestPick(t *testing.T) {
	r := rand.New(rand.NewSource(3))
	for range 30 {
		s := tree(r, 5)
		paths(s, nil, func(path []int, want api.Step) {
			if got, ok := check.Pick(s, path); !ok || !identical(got, want) {
				t.Errorf("Pick at %v: %v", path, ok)
			}
		})
		for _, path := range missing(s) {
			if got, ok := check.Pick(s, path); ok || !isZero(got) {
				t.Errorf("Pick at %v: %v", path, ok)
			}
		}
	}
	if got, ok := check.Pick(api.Step{}, nil); !ok || !isZero(got) {
		t.Errorf("Pick of the zero step: %v", ok)
	}
}

// P7.3: Graft puts a step in the place of another one, and changes nothing else.
func TestGraft(t *testing.T) {
	r := rand.New(rand.NewSource(4))
	for range 30 {
		s, scion := tree(r, 5), tree(r, 3)
		paths(s, nil, func(path []int, _ api.Step) {
			got, ok := check.Graft(s, path, scion)
			if !ok {
				t.Errorf("Graft at %v: false", path)
			}
			changed := true
			paths(s, nil, func(other []int, old api.Step) {
				now, ok := check.Pick(got, other)
				switch {
				case slices.Equal(other, path):
					changed = changed && ok && identical(now, scion)
				case len(other) >= len(path) && slices.Equal(other[:len(path)], path): // below the place
				case len(other) < len(path) && slices.Equal(path[:len(other)], other): // above it
					now.Kids, old.Kids = now.Kids[:0:0], old.Kids[:0:0]
					changed = changed && ok && identical(now, old)
				default:
					changed = changed && ok && identical(now, old)
				}
			})
			if !changed {
				t.Errorf("Graft at %v is wrong", path)
			}
			all, _ := count(s)
			replaced, _ := check.Pick(s, path)
			less, _ := count(replaced)
			more, _ := count(scion)
			if n, _ := count(got); n != all-less+more {
				t.Errorf("Graft at %v has %d steps", path, n)
			}
		})
		for _, path := range missing(s) {
			if got, ok := check.Graft(s, path, scion); ok || !isZero(got) {
				t.Errorf("Graft at %v: %v", path, ok)
			}
		}
	}
}

// P7.3: Equal is true for steps that differ in how numbers are denoted alone.
func TestEqual(t *testing.T) {
	r := rand.New(rand.NewSource(5))
	list := append(fullSteps(), api.Step{}, api.Step{Rule: -5, E: badExprs()[1], Kids: make([]api.Step, 3)}, chain(60), bush(2501))
	for range 30 {
		list = append(list, tree(r, 4))
	}
	for i, s := range list {
		for j, other := range list {
			want := i == j || identical(s, other)
			for _, pair := range [][2]api.Step{{s, other}, {disguisedStep(s), other}, {s, disguisedStep(other)}, {disguisedStep(s), disguisedStep(other)}} {
				if got := check.Equal(pair[0], pair[1]); got != want {
					t.Errorf("Equal of %d and %d: %v, want %v", i, j, got, want)
				}
			}
		}
	}
}

// P7.3: Equal is false for steps that differ in any field, anywhere.
func TestEqualFields(t *testing.T) {
	base := api.Step{Rule: 3, Name: "a", Other: "b", At: rat("1/2"), K: 1, N: 2, Prec: 3, E: ex("x + 1"), Point: []api.Value{{Name: "x", Num: rat("1")}, {Name: "y", Num: rat("2")}}, Entry: "c", Ver: 4, Args: []api.Bind{{Name: "x", E: ex("y")}, {Name: "y", E: ex("z")}}, Kids: []api.Step{{Rule: 1}, {Rule: 2}}}
	changes := map[string]func(s *api.Step){
		"Rule": func(s *api.Step) { s.Rule = 4 }, "Name": func(s *api.Step) { s.Name = "A" }, "Other": func(s *api.Step) { s.Other = "" }, "K": func(s *api.Step) { s.K = -1 }, "N": func(s *api.Step) { s.N = 0 }, "Prec": func(s *api.Step) { s.Prec = 4 }, "Entry": func(s *api.Step) { s.Entry = "c " }, "Ver": func(s *api.Step) { s.Ver = 5 },
		"At": func(s *api.Step) { s.At = rat("1/3") }, "sign of At": func(s *api.Step) { s.At.Neg = true }, "At 0": func(s *api.Step) { s.At = api.Rat{} }, "a large At": func(s *api.Step) { s.At = rat("2^9000") },
		"Op": func(s *api.Step) { s.E.Op = api.OpSub }, "Arg": func(s *api.Step) { s.E.Arg = 1 }, "Num of a sum": func(s *api.Step) { s.E.Num = rat("1") }, "Num": func(s *api.Step) { s.E.Kids[1].Num = rat("2") }, "Name in E": func(s *api.Step) { s.E.Kids[0].Name = "y" }, "Kids of E": func(s *api.Step) { s.E.Kids = s.E.Kids[:1] }, "order in E": func(s *api.Step) { slices.Reverse(s.E.Kids) }, "a kid of a name": func(s *api.Step) { s.E.Kids[0].Kids = make([]api.Expr, 1) },
		"name in Point": func(s *api.Step) { s.Point[1].Name = "x" }, "number in Point": func(s *api.Step) { s.Point[1].Num = rat("-2") }, "length of Point": func(s *api.Step) { s.Point = s.Point[:1] }, "order of Point": func(s *api.Step) { slices.Reverse(s.Point) },
		"name in Args": func(s *api.Step) { s.Args[0].Name = "y" }, "expression in Args": func(s *api.Step) { s.Args[1].E = ex("y") }, "length of Args": func(s *api.Step) { s.Args = s.Args[1:] }, "no Args": func(s *api.Step) { s.Args = nil },
		"rule of a kid": func(s *api.Step) { s.Kids[1].Rule = 1 }, "order of kids": func(s *api.Step) { slices.Reverse(s.Kids) }, "number of kids": func(s *api.Step) { s.Kids = s.Kids[:1] }, "a kid more": func(s *api.Step) { s.Kids = append(s.Kids, api.Step{}) }, "a kid of a kid": func(s *api.Step) { s.Kids[0].Kids = make([]api.Step, 1) },
	}
	fresh := func() api.Step { s, _ := check.Pick(base, nil); return s }
	wrap := func(s api.Step) api.Step { return st("cut x 0", st("range 1"), st("fall y 1", s)) }
	if !check.Equal(fresh(), base) || !check.Equal(wrap(fresh()), wrap(disguisedStep(base))) {
		t.Error("a step is not equal to itself")
	}
	for what, change := range changes {
		s := fresh()
		change(&s)
		for _, pair := range [][2]api.Step{{s, base}, {base, s}, {disguisedStep(s), base}, {wrap(base), wrap(s)}} {
			if check.Equal(pair[0], pair[1]) {
				t.Errorf("steps with a different %s are equal", what)
			}
		}
	}
}

// P7.3: numbers of any size, in every place, are the same if they denote the same.
func TestEqualNumbers(t *testing.T) {
	ones := func(n int) []uint32 { return slices.Repeat([]uint32{1}, n) }
	threes := func(n int) []uint32 { return slices.Repeat([]uint32{3}, n) }
	groups := [][]api.Rat{
		{{}, {Neg: true}, {Num: []uint32{0}}, {Den: ones(500)}, {Neg: true, Num: make([]uint32, 400), Den: []uint32{0, 5}}},
		{rat("1"), {Num: []uint32{1}, Den: []uint32{0, 0}}, {Num: []uint32{1}, Den: []uint32{1}}, {Num: ones(700), Den: ones(700)}, {Num: threes(300), Den: append(threes(300), 0, 0)}},
		{rat("-1"), {Neg: true, Num: ones(300), Den: ones(300)}, {Neg: true, Num: []uint32{7}, Den: []uint32{7}}},
		{rat("1/3"), {Num: ones(600), Den: threes(600)}, {Num: []uint32{5}, Den: []uint32{15}}},
		{rat("3"), {Num: threes(257), Den: ones(257)}},
		{rat("-3"), {Neg: true, Num: threes(100), Den: append(ones(100), 0)}},
		{{Num: ones(1000)}, {Num: threes(1000), Den: []uint32{3}}, {Num: append(ones(1000), 0, 0, 0)}},
		{{Num: ones(1001)}, {Num: threes(1001), Den: []uint32{3}}},
		{{Num: append(ones(1000), 1)[1:], Den: []uint32{2}}},
		{{Den: []uint32{2}, Num: []uint32{1}}, {Num: ones(2000), Den: slices.Repeat([]uint32{2}, 2000)}},
		{rat("2^9000"), {Num: append(make([]uint32, 600), rat("2^9000").Num...), Den: append(make([]uint32, 600), 1)}},
		{rat("-2^9000")}, {rat("2^-9000")}, {rat("2^9001")},
	}
	places := []func(x api.Rat) api.Step{
		func(x api.Rat) api.Step { return api.Step{At: x} },
		func(x api.Rat) api.Step { return api.Step{E: api.Expr{Op: 77, Num: x}} },
		func(x api.Rat) api.Step { return api.Step{E: api.Expr{Kids: []api.Expr{{}, {Num: x}}}} },
		func(x api.Rat) api.Step { return api.Step{Point: []api.Value{{}, {Num: x}}} },
		func(x api.Rat) api.Step { return api.Step{Args: []api.Bind{{E: api.Expr{Num: x}}}} },
		func(x api.Rat) api.Step { return api.Step{Kids: []api.Step{{At: x}}} },
	}
	for i, group := range groups {
		for j, other := range groups {
			for _, x := range group {
				for _, y := range other {
					for k, place := range places {
						if got := check.Equal(place(x), place(y)); got != (i == j) {
							t.Errorf("Equal of the groups %d and %d in place %d: %v", i, j, k, got)
						}
					}
				}
			}
		}
	}
}

// R1: trees as deep as the document allows for.
func TestDeepTrees(t *testing.T) {
	s := chain(1 << 16)
	path := make([]int, 1<<16-1)
	if !check.Equal(s, s) || check.Equal(s, chain(1<<16-1)) || len(check.Uses(s)) > 0 {
		t.Error("Equal or Uses of a deep tree is wrong")
	}
	if got, ok := check.Pick(s, path); !ok || !identical(got, st("range 8")) {
		t.Error("Pick of a deep tree is wrong")
	}
	if got, ok := check.Graft(s, path, st("range 9")); !ok || check.Equal(s, got) {
		t.Error("Graft into a deep tree is wrong")
	}
}

// addresses adds the addresses of the arrays of all slices in v to seen, and reports whether none was there.
func addresses(v reflect.Value, seen map[uintptr]bool) bool {
	fresh := true
	switch v.Kind() {
	case reflect.Interface:
		if !v.IsNil() {
			return addresses(v.Elem(), seen)
		}
	case reflect.Slice:
		if v.Cap() > 0 {
			fresh = !seen[v.Pointer()]
			seen[v.Pointer()] = true
		}
		for i := range v.Len() {
			fresh = addresses(v.Index(i), seen) && fresh
		}
	case reflect.Struct:
		for i := range v.NumField() {
			fresh = addresses(v.Field(i), seen) && fresh
		}
	}
	return fresh
}

// R4: arguments are neither changed nor kept, and results are new memory, of which no two parts share any.
func TestMemory(t *testing.T) {
	lib := []api.Entry{{Name: "bern", Ver: 2, Claim: cl("x + y + 1/3 > 0 for x in [1/4, 7], y in [1/4, 7] where x >= 1/3")}}
	claims := []api.Claim{
		cl("max(x, 1/3) + 1/3 > 0 for x in [1/3, 7/3], y in [1/3, 7/3] where y >= 1/3"), cl("x^2 * 2/3 + 1/3 > 0 for x in [1/3, inf), y in [1/3, 7/3]"), cl("x * y + 1/3 * (x + y) > 0 for x in [1/3, 7/3], y in [1/3, 7/3] where x + y - 1/3 > 0, 5 - x > 0"), cl("sin(x) + 4/3 > 0 for x in (-inf, inf)"), cl("2/3 * x * (7/3 - x) >= 0 for x in [0, 7/3], y in [1/3, 5/3]"), cl("x^2 >= 0 for x in [-1/3, 1/3]"), cl("x >= 0 for x in [1/3, inf)"), cl("x + y + 1/3 > 0 for x in [1/3, 7/3], y in [1/3, 7/3] where 4/3 - x - y > 0, 5/3 > x, 5/3 > y"),
	}
	proofs := append(fullSteps(), pf("0 cut x 5/3\n1 range 4\n1 range 4"), pf("0 cut x 5/3\n1 turn y 1/3\n2 via {x + 1/3}\n3 rise x 1\n4 range 1\n3 range 4\n1 range 4"), st("via {x * 1/3}"), st("scale {x + 1/3}"), st("add 0 2/3"), st("narrow x 1 4 8"), st("swap x y 5"), st("rise x 8"), st("cave x 8"), st("branch 8"), st("turn x 1/3"), st("cut x 1"), st("same {1/3 + x * y + 1/3 * (x + y) - 1/3} 9"), st("lemma bern 2 [x={y}, y={x}] 8"), st("zero [x=0] 8"), st("lead x 0 2 8"), st("range 20"), st("far x 1 {1} 4"))
	for range 3 {
		proofs = append(proofs, tree(rand.New(rand.NewSource(6)), 4))
	}
	applied := map[int]bool{}
	for i, c := range claims {
		if i%2 == 0 {
			c = disguisedClaim(c)
		}
		for _, s := range proofs {
			before := fmt.Sprint(lib, c, s)
			for name, call := range map[string]func() []any{
				"Apply": func() []any {
					list, err := check.Apply(lib, c, s)
					applied[s.Rule] = applied[s.Rule] || err == api.OK
					return []any{list}
				},
				"Check":  func() []any { return []any{check.Check(lib, c, s)} },
				"Leaves": func() []any { list, _ := check.Leaves(lib, c, s); return []any{list} },
				"Uses":   func() []any { return []any{check.Uses(s)} },
				"Pick":   func() []any { got, _ := check.Pick(s, nil); return []any{got} },
				"Graft":  func() []any { got, _ := check.Graft(s, []int{0}, s); return []any{got} },
				"Parse":  func() []any { text, _ := check.Print(s); got, _, _ := check.Parse(text); return []any{got} },
				"others": func() []any { check.Equal(s, s); check.Shape(s); check.Steps(s); check.Depth(s); return nil },
			} {
				results := call()
				if fmt.Sprint(lib, c, s) != before {
					t.Errorf("%s changes an argument", name)
				}
				seen := map[uintptr]bool{}
				for _, arg := range []any{lib, c, s} {
					addresses(reflect.ValueOf(arg), seen)
				}
				if !addresses(reflect.ValueOf(results), seen) {
					t.Errorf("%s of %s and %s shares memory", name, text(c), strings.SplitN(fmt.Sprint(s), " ", 2)[0])
				}
			}
		}
	}
	for rule := range forms {
		if !applied[rule] && !slices.Contains([]int{api.RuleMean, api.RuleTaylor, api.RuleLinear, api.RuleEmpty, api.RuleFall}, rule) {
			t.Errorf("%s was never applied", forms[rule].name)
		}
	}
}
