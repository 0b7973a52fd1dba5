package library_test

import (
	"encoding/binary"
	"fmt"
	"hash/crc32"
	"slices"
	"strconv"
	"strings"
	"testing"

	"inequality/api"
	"inequality/check"
	"inequality/claim"
	"inequality/expr"
	"inequality/number"
)

// cl returns the claim of a text that has no error.
func cl(text string) api.Claim {
	c, at, err := claim.Parse(text)
	if err != api.OK {
		panic(text + ": error " + strconv.Itoa(int(err)) + " at " + strconv.Itoa(at))
	}
	return c
}

// ex returns the expression of a text that has no error.
func ex(text string) api.Expr {
	e, at, err := expr.Parse(text)
	if err != api.OK {
		panic(text + ": error " + strconv.Itoa(int(err)) + " at " + strconv.Itoa(at))
	}
	return e
}

// pf returns the proof of lines that have no error; the last one may lack its line feed.
func pf(text string) api.Step {
	s, line, err := check.Parse(strings.TrimSuffix(text, "\n") + "\n")
	if err != api.OK {
		panic(text + ": error " + strconv.Itoa(int(err)) + " in line " + strconv.Itoa(line))
	}
	return s
}

// key returns the key of a text, which is a name, a space and a version.
func key(text string) api.Key {
	i := strings.LastIndex(text, " ")
	ver, err := strconv.Atoi(text[i+1:])
	if err != nil {
		panic(text)
	}
	return api.Key{Name: text[:i], Ver: ver}
}

// keys returns the keys of texts.
func keys(texts ...string) []api.Key {
	var list []api.Key
	for _, text := range texts {
		list = append(list, key(text))
	}
	return list
}

// keyTexts returns the texts of keys.
func keyTexts(list []api.Key) []string {
	var texts []string
	for _, k := range list {
		texts = append(texts, k.Name+" "+strconv.Itoa(k.Ver))
	}
	return texts
}

// user returns a proof of 1 > 0 that uses these keys, one after another, with entries that have claims without sides.
func user(used []api.Key) api.Step {
	s := api.Step{Rule: api.RuleRange, Prec: 8}
	for _, k := range slices.Backward(used) {
		s = api.Step{Rule: api.RuleLemma, Entry: k.Name, Ver: k.Ver, Prec: 8, Kids: []api.Step{s}}
	}
	return s
}

// entry returns the entry of a text, `a 1` or `a 1 <- b 2, c 1`, with a key and those that its proof of 1 > 0 uses.
func entry(text string) api.Entry {
	own, used, ok := strings.Cut(text, " <- ")
	k := key(own)
	e := api.Entry{Name: k.Name, Ver: k.Ver, Claim: cl("1 > 0")}
	if ok {
		e.Proof = user(keys(strings.Split(used, ", ")...))
	} else {
		e.Proof = user(nil)
	}
	return e
}

// lib returns the library of the texts of its entries.
func lib(texts ...string) []api.Entry {
	var list []api.Entry
	for _, text := range texts {
		list = append(list, entry(text))
	}
	return list
}

// stated returns an entry with this key, claim and proof.
func stated(own, text, proof string) api.Entry {
	k := key(own)
	return api.Entry{Name: k.Name, Ver: k.Ver, Claim: cl(text), Proof: pf(proof)}
}

// textbook returns a sound library of real claims, of which some are proved by others.
func textbook() []api.Entry {
	return []api.Entry{
		stated("sine 1", "x >= sin(x) for x in [0, inf)", "0 rise x 8\n1 range 8"),
		stated("bern 1", "exp(x) >= 1 + x for x in [-1, 1]", "0 zero [x=0] 8"),
		stated("sine 2", "1 + y > sin(y) for y in [0, 5]", "0 lemma sine 1 [x={y}] 8\n1 add 0 1\n2 same {1} 8\n3 range 8"),
		stated("sum 1", "exp(z) + z >= 1 + z + sin(z) for z in [0, 1]", "0 lemma bern 1 [x={z}] 8\n1 lemma sine 1 [x={z}] 8\n2 add 0 1\n3 add 1 1\n4 same {0} 8\n5 range 8"),
		stated("bern 2", "exp(x) > x for x in [-1, 1], y in [0, 1] where x + y > 0, 1 - x >= 0", "0 lemma bern 1 [x={x}] 8\n1 add 2 1\n2 same {1} 8\n3 range 8"),
		stated("sum 2", "exp(z) + z^3 >= sin(z) + z^3 for z in [0, 1] where z + 1/3 > 0, 1 - z >= 0", "0 lemma bern 2 [x={z}, y={1/3}] 8\n1 lemma sine 1 [x={z}] 8\n2 add 2 1\n3 add 3 1\n4 same {0} 8\n5 range 8"),
	}
}

// describe returns a text for each entry of a library, in which all of it can be seen but the way in which numbers are denoted.
func describe(list []api.Entry) []string {
	var texts []string
	for _, e := range list {
		c, err := claim.Print(e.Claim)
		if err != api.OK {
			c = fmt.Sprint(e.Claim)
		}
		s, err := check.Print(e.Proof)
		if err != api.OK {
			s = fmt.Sprint(e.Proof)
		}
		texts = append(texts, strings.Join([]string{e.Name, strconv.Itoa(e.Ver), c, s}, "|"))
	}
	return texts
}

// expectLib checks a library that a function returns with an error code; it returns none with an error.
func expectLib(t *testing.T, what string, got []api.Entry, err api.Errno, want []api.Entry, wantErr api.Errno) {
	t.Helper()
	if err != wantErr || err != api.OK && len(got) > 0 {
		t.Errorf("%s: %d entries, error %d, want error %d", what, len(got), err, wantErr)
		return
	}
	if err == api.OK && !slices.Equal(describe(got), describe(want)) {
		t.Errorf("%s: %q, want %q", what, describe(got), describe(want))
	}
}

// expectKeys checks keys that a function returns with an error code.
func expectKeys(t *testing.T, what string, got []api.Key, err api.Errno, want []string, wantErr api.Errno) {
	t.Helper()
	if err != wantErr || !slices.Equal(keyTexts(got), want) {
		t.Errorf("%s: %q, error %d, want %q, error %d", what, keyTexts(got), err, want, wantErr)
	}
}

// body returns the body that consists of these texts.
func body(texts ...string) string {
	var b []byte
	for _, text := range texts {
		b = append(binary.BigEndian.AppendUint32(b, uint32(len(text))), text...)
	}
	return string(b)
}

// sealed returns the record with this body.
func sealed(body string) string {
	size := binary.BigEndian.AppendUint32(nil, uint32(len(body)))
	sum := crc32.ChecksumIEEE(append(slices.Clone(size), body...))
	return string(binary.BigEndian.AppendUint32(size, sum)) + body
}

// recordOf returns the record of an entry that has a text.
func recordOf(e api.Entry) string {
	c, err := claim.Print(e.Claim)
	s, proofErr := check.Print(e.Proof)
	if err != api.OK || proofErr != api.OK {
		panic(e)
	}
	return sealed(body(e.Name, c, s))
}

// logOf returns the records of entries.
func logOf(list []api.Entry) string {
	var b strings.Builder
	for _, e := range list {
		b.WriteString(recordOf(e))
	}
	return b.String()
}

// disguised returns a number equal to x that is not canonical.
func disguised(x api.Rat) api.Rat {
	if len(x.Num) == 0 {
		return api.Rat{Neg: true, Num: []uint32{0}, Den: []uint32{0, 7}}
	}
	if len(x.Den) == 0 {
		x.Den = []uint32{1}
	}
	times := func(words []uint32) []uint32 {
		y, _ := number.Mul(api.Rat{Num: words}, number.FromInt(6))
		return append(slices.Clone(y.Num), 0, 0)
	}
	return api.Rat{Neg: x.Neg, Num: times(x.Num), Den: times(x.Den)}
}

// disguisedExpr returns an expression equal to e that is not canonical.
func disguisedExpr(e api.Expr) api.Expr {
	e.Num = disguised(e.Num)
	kids := e.Kids
	e.Kids = nil
	for _, kid := range kids {
		e.Kids = append(e.Kids, disguisedExpr(kid))
	}
	return e
}

// disguisedEntry returns an entry equal to e that is not canonical.
func disguisedEntry(e api.Entry) api.Entry {
	d := api.Entry{Name: e.Name, Ver: e.Ver, Claim: api.Claim{Goal: disguisedExpr(e.Claim.Goal), Strict: e.Claim.Strict}, Proof: disguisedStep(e.Proof)}
	for _, s := range e.Claim.Box {
		s.Iv.Lo, s.Iv.Hi = disguised(s.Iv.Lo), disguised(s.Iv.Hi)
		d.Claim.Box = append(d.Claim.Box, s)
	}
	for _, k := range e.Claim.Conds {
		d.Claim.Conds = append(d.Claim.Conds, api.Cond{E: disguisedExpr(k.E), Strict: k.Strict})
	}
	return d
}

// disguisedStep returns a step equal to s that is not canonical.
func disguisedStep(s api.Step) api.Step {
	point, args, kids := s.Point, s.Args, s.Kids
	s.At, s.E = disguised(s.At), disguisedExpr(s.E)
	s.Point, s.Args, s.Kids = nil, nil, nil
	for _, v := range point {
		s.Point = append(s.Point, api.Value{Name: v.Name, Num: disguised(v.Num)})
	}
	for _, b := range args {
		s.Args = append(s.Args, api.Bind{Name: b.Name, E: disguisedExpr(b.E)})
	}
	for _, kid := range kids {
		s.Kids = append(s.Kids, disguisedStep(kid))
	}
	return s
}

// disguisedLib returns a library of equal entries that are not canonical.
func disguisedLib(list []api.Entry) []api.Entry {
	var all []api.Entry
	for _, e := range list {
		all = append(all, disguisedEntry(e))
	}
	return all
}

// badClaims are claims that are not valid.
func badClaims() []api.Claim {
	large := api.Rat{Num: append(make([]uint32, 64), 1)}
	endless := api.Expr{Op: api.OpNeg, Kids: make([]api.Expr, 1)}
	endless.Kids[0] = endless
	many := cl("x > 0 for x in [0, 1] where x > 0")
	many.Conds = slices.Repeat(many.Conds, 13)
	empty := cl("x > 0 for x in [0, 1]")
	empty.Box[0].Iv.Lo = number.FromInt(2)
	return []api.Claim{{}, {Goal: ex("x")}, {Goal: endless}, {Goal: api.Expr{Op: api.OpNum, Num: large}}, many, empty}
}

// sum returns the text of an expression that has this number of bytes.
func sum(size int) string {
	if size <= 600 {
		return strings.Repeat("9", size)
	}
	first := min(600, size-4)
	return strings.Repeat("9", first) + " + " + sum(size-first-3)
}

// longProof returns a proof with a step for each length, and an expression of that length in it.
func longProof(lengths []int) api.Step {
	s := pf("0 range 8")
	for _, size := range lengths {
		s = api.Step{Rule: api.RuleVia, E: ex(sum(size)), Kids: []api.Step{pf("0 range 8"), s}}
	}
	return s
}

// bulky returns an entry whose record has this number of bytes.
func bulky(own string, size int) api.Entry {
	e := entry(own)
	lengths := []int{1}
	for {
		e.Proof = longProof(lengths)
		missing := size - len(recordOf(e))
		if missing == 0 {
			return e
		}
		last := &lengths[len(lengths)-1]
		if *last+missing <= 3900 {
			*last += missing
			continue
		}
		*last = 3900
		lengths = append(lengths, 1)
	}
}

// numbered returns a sound library with this number of entries.
func numbered(n int) []api.Entry {
	var list []api.Entry
	for i := range n {
		list = append(list, entry(string(rune('a'+i%2))+" "+strconv.Itoa(i/2+1)))
	}
	return list
}

// deepProof returns a proof that is one step too deep.
func deepProof() api.Step {
	s := pf("0 range 8")
	for range api.MaxLevels + 1 {
		s = api.Step{Rule: api.RuleTurn, Name: "x", Kids: []api.Step{s}}
	}
	return s
}

// badNames are strings that are no names.
func badNames() []string {
	return []string{"", "A", "a_", "1a", "a23456789", "sin", "inf", "a ", "a\n", "\xff", "where", "a\x00"}
}
