package library_test

import (
	"math/rand"
	"slices"
	"strconv"
	"strings"
	"testing"

	"inequality/api"
	"inequality/check"
	"inequality/claim"
	"inequality/expr"
	"inequality/interval"
	"inequality/library"
	"inequality/number"
	"inequality/search"
)

// pick returns one of the texts.
func (s source) pick(texts ...string) string {
	return texts[s.Intn(len(texts))]
}

// claim returns a random claim in the variables x and y, which may be false.
func (s source) claim() api.Claim {
	x, y := s.pick("x", "y", "x + y", "x * y", "x^2", "1 - x"), s.pick("x", "y", "1/2", "x - y")
	k := strconv.Itoa(s.Intn(5) - 1)
	goal := s.pick(x+" - sin("+x+") + "+k, "exp("+x+") - 1 - "+y, "("+x+")^2 + "+k, "sin("+x+") * cos("+y+") + "+k, "abs("+x+") + "+k, x+" + "+y+" + "+k)
	text := goal + s.pick(" >= 0", " > 0") + " for x in " + s.side() + ", y in " + s.side()
	if s.Intn(3) == 0 {
		text += " where " + s.pick(x, y, "x + 1") + s.pick(" >= 0", " > 0")
	}
	return cl(strings.ReplaceAll(text, "+ -", "- "))
}

// side returns the text of a random interval.
func (s source) side() string {
	return s.pick("[0, 1]", "[-1, 1]", "[-2, 3/2]", "[0, inf)", "[1/3, 1/2]", "(-inf, inf)", "[2, 5]", "(-inf, 0]")
}

// prove returns a proof of a claim, if a short search finds one.
func prove(c api.Claim) (api.Step, bool) {
	o, err := search.Prove(c, api.Plan{Budget: 12, Prec: 10, Levels: 4})
	return o.Proof, err == api.OK && o.State == api.Proved
}

// withLemma returns a proof of a claim that takes an entry of a library as a lemma, if a search finds the rest of it.
func (s source) withLemma(list []api.Entry, c api.Claim) (api.Step, bool) {
	if len(list) == 0 {
		return api.Step{}, false
	}
	e := list[s.Intn(len(list))]
	step := api.Step{Rule: api.RuleLemma, Entry: e.Name, Ver: e.Ver, Prec: 10, Kids: make([]api.Step, 1)}
	for _, side := range e.Claim.Box {
		step.Args = append(step.Args, api.Bind{Name: side.Name, E: ex(s.pick("x", "y", "1/2", "x^2", "3"))})
	}
	kids, err := check.Apply(list, c, step)
	if err != api.OK {
		return api.Step{}, false
	}
	var ok bool
	step.Kids[0], ok = prove(kids[0])
	return step, ok
}

// sound returns a library that grows by random claims with these names, and checks that Add keeps it sound.
func (s source) sound(t *testing.T, list []api.Entry, tries int, names ...string) []api.Entry {
	t.Helper()
	for range tries {
		c := s.claim()
		proof, ok := s.withLemma(list, c)
		if !ok {
			proof, ok = prove(c)
		}
		if s.Intn(4) == 0 { // a proof that may be wrong
			proof, ok = s.proof(s.Intn(3)), true
		}
		if !ok {
			continue
		}
		more, ver, err := library.Add(list, s.pick(names...), c, proof)
		if err != api.OK {
			continue
		}
		if i, ok := library.Sound(more); !ok || ver < 1 || len(more) != len(list)+1 {
			t.Errorf("Add makes a library unsound at %d: %q", i, describe(more))
		}
		list = more
	}
	return list
}

// P9.10: what Add, Drop, Extract and Merge make of sound libraries is sound.
func TestSoundStaysSound(t *testing.T) {
	s := source{rand.New(rand.NewSource(10))}
	counts := map[string]int{}
	for range 40 {
		root := s.sound(t, nil, 6, "a", "b")
		a, b := s.sound(t, root, 8, "b", "c"), s.sound(t, root, 8, s.pick("a", "b"), "d")
		for _, e := range a {
			rest, err := library.Drop(a, own(e))
			keep(t, "Drop", rest, err, counts)
			rest, err = library.Extract(a, []api.Key{own(e), own(a[s.Intn(len(a))])})
			keep(t, "Extract", rest, err, counts)
			other, err := library.Extract(a, []api.Key{own(a[s.Intn(len(a))])})
			keep(t, "Extract", other, err, counts)
			both, err := library.Merge(rest, other)
			keep(t, "Merge", both, err, counts)
			back, err := library.Merge(both, a)
			keep(t, "Merge", back, err, counts)
			if len(back) != len(a) {
				t.Errorf("a library has %d entries and its parts have %d", len(a), len(back))
			}
		}
		both, err := library.Merge(a, b)
		keep(t, "Merge of two", both, err, counts)
	}
	for _, what := range []string{"Drop", "Extract", "Merge", "Merge of two", "lemmas"} {
		if counts[what] < 10 {
			t.Errorf("%s: only %d times", what, counts[what])
		}
	}
}

// keep checks that a library that a function returns is sound, if there is no error.
func keep(t *testing.T, what string, list []api.Entry, err api.Errno, counts map[string]int) {
	t.Helper()
	if err != api.OK {
		return
	}
	counts[what]++
	if i, ok := library.Sound(list); !ok {
		t.Errorf("%s makes a library unsound at %d: %q", what, i, describe(list))
	}
	for _, e := range list {
		if len(check.Uses(e.Proof)) > 0 {
			counts["lemmas"]++
		}
	}
}

// point returns a random point of a box.
func (s source) point(box []api.Side) []api.Value {
	var at []api.Value
	for _, side := range box {
		low, high := side.Iv.Lo, side.Iv.Hi
		switch {
		case side.Iv.LoInf && side.Iv.HiInf:
			low, high = number.FromInt(-9), number.FromInt(9)
		case side.Iv.LoInf:
			low, _ = number.Sub(high, number.FromInt(9))
		case side.Iv.HiInf:
			high, _ = number.Add(low, number.FromInt(9))
		}
		part, _ := number.Div(number.FromInt(s.Intn(13)), number.FromInt(12))
		width, _ := number.Sub(high, low)
		step, _ := number.Mul(width, part)
		x, _ := number.Add(low, step)
		at = append(at, api.Value{Name: side.Name, Num: x})
	}
	return at
}

// expectHolds checks that no point out of many refutes a claim, and returns how many are in its region.
func expectHolds(t *testing.T, s source, c api.Claim, tries int) int {
	t.Helper()
	members := 0
	for range tries {
		at := s.point(c.Box)
		if member, err := claim.Member(c, at, 30); err != api.OK || member != 1 {
			continue
		}
		members++
		refuted, err := claim.Refutes(c, at, 30)
		if v, ok, _ := expr.Value(c.Goal, at); ok {
			sign, _ := number.Sign(v)
			refuted = refuted || sign < 0 || sign == 0 && c.Strict
		}
		if refuted || err != api.OK {
			t.Errorf("%v refutes %q", at, describe([]api.Entry{{Claim: c}}))
		}
	}
	return members
}

// P9.11: the claims of sound libraries hold, and so do those that they cover.
func TestClaimsHold(t *testing.T) {
	s := source{rand.New(rand.NewSource(11))}
	members, covered := 0, 0
	for range 25 {
		list := s.sound(t, textbook(), 10, "a", "sine")
		for _, e := range list {
			members += expectHolds(t, s, e.Claim, 12)
			for range 6 {
				c := s.weaker(e.Claim)
				ok, err := library.Covers(list, own(e), c)
				if err != api.OK {
					t.Errorf("Covers: error %d", err)
				}
				if ok {
					covered++
					members += expectHolds(t, s, c, 12)
				}
			}
		}
	}
	if members < 2000 || covered < 300 {
		t.Errorf("only %d points and %d claims are looked at", members, covered)
	}
}

// weaker returns a claim that may follow from c: changed at some places.
func (s source) weaker(c api.Claim) api.Claim {
	d := c
	d.Strict = s.Intn(2) == 0
	d.Box, d.Conds = nil, nil
	for _, side := range c.Box {
		if s.Intn(2) == 0 {
			low, high := s.point([]api.Side{side})[0].Num, s.point([]api.Side{side})[0].Num
			if order, _ := number.Compare(low, high); order > 0 {
				low, high = high, low
			}
			side.Iv, _ = interval.Between(low, high)
		}
		d.Box = append(d.Box, side)
	}
	if s.Intn(3) == 0 {
		d.Box = append(d.Box, api.Side{Name: "zz", Iv: cl("1 > 0 for zz in [-1, 2]").Box[0].Iv})
	}
	for _, k := range c.Conds {
		if s.Intn(4) > 0 {
			d.Conds = append(d.Conds, api.Cond{E: k.E, Strict: k.Strict || s.Intn(2) == 0})
		}
	}
	if s.Intn(3) == 0 {
		d.Conds = append(d.Conds, api.Cond{E: ex(d.Box[0].Name)})
	}
	s.Shuffle(len(d.Conds), func(i, j int) { d.Conds[i], d.Conds[j] = d.Conds[j], d.Conds[i] })
	return d
}

// P9.12: sound libraries and their bytes.
func TestBytesAgain(t *testing.T) {
	s := source{rand.New(rand.NewSource(12))}
	for range 30 {
		list := s.sound(t, textbook(), 8, "a", "b", "bern")
		b, err := library.Encode(list)
		if err != api.OK || string(b) != logOf(list) {
			t.Fatalf("Encode of %q: error %d", describe(list), err)
		}
		expectRead(t, "a sound library", string(b), list, len(b))
		again, _ := library.Decode(b)
		if i, ok := library.Sound(again); !ok {
			t.Errorf("Decode makes a library unsound at %d", i)
		}
		for range 10 {
			cut := s.Intn(len(b))
			whole, size := 0, 0
			for next := len(recordOf(list[0])); next <= cut; next += len(recordOf(list[whole])) {
				whole, size = whole+1, next
			}
			expectRead(t, "a beginning", string(b[:cut]), list[:whole], size)
			b[cut] ^= byte(1 + s.Intn(255))
			expectRead(t, "a changed log", string(b), list[:whole], size)
			b = []byte(logOf(list))
		}
	}
}

// record returns a record with a right checksum, whose texts may be wrong.
func (s source) record() string {
	name, claim, proof := s.pick("a", "b"), s.pick("1 > 0", "x >= 0 for x in [0, 1]"), s.pick("0 range 8\n", "0 rise x 8\n1 range 8\n")
	switch s.Intn(12) {
	case 0:
		name = s.pick("A", "", "pi")
	case 1:
		claim = s.pick("x > 0", "2 > 1", "1 > 0 ")
	case 2:
		proof = s.pick("0 range 8", "0 rise x 8\n", "")
	case 3:
		return sealed(body(name, claim))
	}
	return sealed(body(name, claim, proof))
}

// P9.12: what Recover returns is what Encode writes as the beginning, whatever the bytes are.
func TestRecoverEncodes(t *testing.T) {
	s := source{rand.New(rand.NewSource(13))}
	whole := 0
	for range 600 {
		b := ""
		for range s.Intn(5) {
			b += s.record()
		}
		list, n := library.Recover([]byte(b))
		again, err := library.Encode(list)
		if err != api.OK || string(again) != b[:n] {
			t.Errorf("Encode of what Recover returns has the error %d", err)
		}
		got, err := library.Decode([]byte(b))
		if (err == api.OK) != (n == len(b)) || err == api.OK && len(got) != len(list) {
			t.Errorf("Decode has the error %d, and Recover takes %d bytes of %d", err, n, len(b))
		}
		if len(list) > 1 {
			whole++
		}
	}
	if whole < 50 {
		t.Errorf("only %d logs have several entries", whole)
	}
}

// P9.13: entries do not need themselves, and are used by those that use them.
func TestDependencies(t *testing.T) {
	s := source{rand.New(rand.NewSource(14))}
	pairs := 0
	for range 30 {
		list := s.sound(t, textbook(), 8, "a", "b", "bern")
		for _, k := range library.Keys(list) {
			needs, err := library.Needs(list, k)
			if err != api.OK || slices.Contains(needs, k) {
				t.Errorf("%v needs itself", k)
			}
			uses, _ := library.Uses(list, k)
			for _, l := range library.Keys(list) {
				users, err := library.Users(list, l)
				if err != api.OK || slices.Contains(uses, l) != slices.Contains(users, k) {
					t.Errorf("%v uses %v: %v; the users are %v", k, l, uses, users)
				}
				if slices.Contains(uses, l) {
					pairs++
				}
				if slices.Contains(uses, l) && !slices.Contains(needs, l) {
					t.Errorf("%v uses %v and does not need it", k, l)
				}
			}
		}
	}
	if pairs < 200 {
		t.Errorf("only %d uses", pairs)
	}
}
