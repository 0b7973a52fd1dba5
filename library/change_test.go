package library_test

import (
	"math"
	"slices"
	"strconv"
	"strings"
	"testing"

	"inequality/api"
	"inequality/library"
)

// expectAdd checks what Add returns for an entry; the version in it is that which is expected.
func expectAdd(t *testing.T, list []api.Entry, e api.Entry, wantErr api.Errno) []api.Entry {
	t.Helper()
	got, ver, err := library.Add(list, e.Name, e.Claim, e.Proof)
	want := append(slices.Clone(list), e)
	if wantErr != api.OK {
		e.Ver, want = 0, nil
	}
	expectLib(t, "Add of "+e.Name, got, err, want, wantErr)
	if ver != e.Ver {
		t.Errorf("Add of %s returns the version %d, want %d", e.Name, ver, e.Ver)
	}
	return got
}

// P9.3: a library grows by one entry at its end. Example 1 is among the versions.
func TestAdd(t *testing.T) {
	var list []api.Entry
	for _, e := range textbook() {
		list = expectAdd(t, list, e, api.OK)
	}
	expectLib(t, "the textbook", list, api.OK, textbook(), api.OK)
	bern := textbook()[1]
	once := expectAdd(t, nil, bern, api.OK)
	second := bern
	second.Ver = 2
	twice := expectAdd(t, once, second, api.OK)
	if _, err := library.Drop(twice, key("bern 1")); err != api.ErrUsed {
		t.Errorf("Drop of bern 1: error %d", err)
	}
	expectSound(t, "bern twice", twice, -1)
	expectAdd(t, nil, disguisedEntry(textbook()[0]), api.OK)
}

// P9.3: the version is one more than the greatest one of the name, whatever the library is.
func TestAddVersions(t *testing.T) {
	list := lib("b 1", "a 3", "a 2", "c 0", "d -3", "A 9", "f "+strconv.Itoa(math.MaxInt-1), "g "+strconv.Itoa(math.MaxInt))
	for _, text := range []string{"a 4", "b 2", "c 1", "d 1", "e 1", "f " + strconv.Itoa(math.MaxInt), "a2345678 1"} {
		expectAdd(t, list, entry(text), api.OK)
	}
	expectAdd(t, list, entry("g 1"), api.ErrLimit)
	// lemmas are taken from the whole library, of several entries with one key from the first one
	expectAdd(t, append(list, lib("a 3 <- a 7")...), entry("z 1 <- a 3, c 0, d -3, A 9"), api.OK)
	expectAdd(t, list, entry("z 1 <- a 4"), api.ErrLemma)
	expectAdd(t, list, entry("a 4 <- a 4"), api.ErrLemma)
	expectAdd(t, append(lib("sine 1"), textbook()...), textbook()[2], api.ErrProof)
	sine := textbook()[2]
	sine.Ver = 3
	expectAdd(t, append(textbook(), lib("sine 1")...), sine, api.OK)
}

// P9.3: names that are none, and every error of the proof.
func TestAddErrors(t *testing.T) {
	for _, name := range badNames() {
		e := entry("a 1")
		e.Name = name
		expectAdd(t, nil, e, api.ErrName)
		expectAdd(t, textbook(), e, api.ErrName)
	}
	for _, c := range badClaims() {
		expectAdd(t, textbook(), api.Entry{Name: "a", Claim: c, Proof: pf("0 range 8")}, api.ErrClaim)
	}
	endless := api.Step{Rule: api.RuleTurn, Name: "x", Kids: make([]api.Step, 1)}
	endless.Kids[0] = endless
	for want, proofs := range map[api.Errno][]api.Step{
		api.ErrLimit: {deepProof(), endless},
		api.ErrRule:  {{}, {Rule: 22}, {Rule: -1}, {Rule: api.RuleRange, K: 1}, {Rule: api.RuleRange, Kids: make([]api.Step, 1)}},
		api.ErrLemma: {pf("0 lemma sine 3 [x={1}] 8\n1 range 8"), pf("0 lemma cosine 1 [x={1}] 8\n1 range 8")},
		api.ErrProof: {pf("0 range 8"), pf("0 lemma sine 1 [x={1}] 8\n1 range 8"), pf("0 lemma sine 1 [y={1}] 8\n1 zero [x=0] 8")},
	} {
		for _, s := range proofs {
			expectAdd(t, textbook(), api.Entry{Name: "a", Claim: textbook()[1].Claim, Proof: s}, want)
		}
	}
}

// P9.3: of several errors, the first one in the order of the promise is returned.
func TestAddOrder(t *testing.T) {
	full, last := numbered(200), entry("a "+strconv.Itoa(math.MaxInt))
	for bits := range 16 {
		list, e, want := full[:199], entry("a 101"), api.OK
		if bits&1 > 0 {
			e.Proof, want = pf("0 lemma z 1 [] 8\n1 range 8"), api.ErrLemma
		}
		if bits&2 > 0 {
			e.Name, want = "A", api.ErrName
		}
		if bits&4 > 0 {
			list, want = full, api.ErrLimit
		}
		if bits&8 > 0 {
			last.Name = e.Name
			list, want = append(slices.Clone(list[1:]), last), api.ErrLimit
		}
		expectAdd(t, list, e, want)
	}
	expectAdd(t, numbered(300), entry("c 1"), api.ErrLimit)
	expectSound(t, "a full library", expectAdd(t, full[:199], entry("b 100"), api.OK), -1)
}

// without returns a list without the element at an index.
func without(list []api.Entry, i int) []api.Entry {
	return slices.Delete(slices.Clone(list), i, i+1)
}

// P9.4: an entry that no other one needs, in the library or for its version, is dropped.
func TestDrop(t *testing.T) {
	for _, c := range []struct {
		texts, key string
		want       int // the index of the entry, or -1 for ErrEntry, -2 for ErrUsed
	}{
		{"a 1", "a 1", 0}, {"a 1", "a 2", -1}, {"a 1", "a 0", -1}, {"a 1", "b 1", -1}, {"a 1; a 2", "a 1", -2}, {"a 1; a 2", "a 2", 1}, {"a 2; a 1", "a 2", 0}, {"a 1; b 1; b 2", "a 1", 0},
		{"a 1; b 1 <- a 1", "a 1", -2}, {"a 1; b 1 <- a 1", "b 1", 1}, {"b 1 <- a 1; a 1", "a 1", -2}, {"a 1; b 1 <- a 1; c 1 <- b 1", "a 1", -2}, {"a 1; b 1 <- a 2", "a 1", 0}, {"a 1; b 1 <- A 1", "a 1", 0},
		// an entry may use itself; another one with the same key counts as any other
		{"a 1 <- a 1", "a 1", 0}, {"a 1 <- a 1; a 1", "a 1", 0}, {"a 1; a 1 <- a 1", "a 1", -2}, {"a 1; a 1", "a 1", 0}, {"a 1; b 1; a 1", "a 1", 0}, {"a 1; b 1 <- a 1; b 1", "a 1", -2},
		// versions that are not consecutive: Latest is at least 0
		{"a 0", "a 0", 0}, {"a 0; a -1", "a 0", 0}, {"a -1", "a -1", -2}, {"a 7; a 5", "a 7", 0}, {"a 7; a 5", "a 5", -2}, {" 3; A 1", " 3", 0},
	} {
		list := lib(strings.Split(c.texts, "; ")...)
		got, err := library.Drop(list, key(c.key))
		what := "Drop of " + c.key + " from " + c.texts
		switch {
		case c.want >= 0:
			expectLib(t, what, got, err, without(list, c.want), api.OK)
		case c.want == -1:
			expectLib(t, what, got, err, nil, api.ErrEntry)
		default:
			expectLib(t, what, got, err, nil, api.ErrUsed)
		}
	}
	for i, want := range []api.Errno{api.ErrUsed, api.ErrUsed, api.OK, api.ErrUsed, api.ErrUsed, api.OK} {
		e := textbook()[i]
		got, err := library.Drop(textbook(), api.Key{Name: e.Name, Ver: e.Ver})
		expectLib(t, "Drop of "+e.Name, got, err, without(textbook(), i), want)
	}
	if _, err := library.Drop(nil, key("a 1")); err != api.ErrEntry {
		t.Errorf("Drop from an empty library: error %d", err)
	}
}

// P9.5: entries with all that they need and all earlier versions, for every order of the keys.
func TestExtract(t *testing.T) {
	list := lib("a 1", "b 1", "a 2 <- b 1", "c 1", "b 2 <- c 1", "d 1 <- a 1", "a 3", "e 1 <- b 2", "e 2 <- d 1, d 1", "f 1")
	for keyText, want := range map[string]string{
		"": "", "a 1": "0", "b 1": "1", "a 2": "0 1 2", "c 1": "3", "b 2": "1 3 4", "d 1": "0 5", "a 3": "0 1 2 6", "e 1": "1 3 4 7", "e 2": "0 1 3 4 5 7 8", "f 1": "9",
		"f 1; d 1": "0 5 9", "d 1; b 1": "0 1 5", "e 2; a 2; f 1": "0 1 2 3 4 5 7 8 9", "c 1; c 1": "3", "f 1; a 3; e 2": "0 1 2 3 4 5 6 7 8 9",
	} {
		var chosen []api.Entry
		for _, i := range strings.Fields(want) {
			n, _ := strconv.Atoi(i)
			chosen = append(chosen, list[n])
		}
		var keyList []api.Key
		if keyText != "" {
			keyList = keys(strings.Split(keyText, "; ")...)
		}
		for range 2 {
			got, err := library.Extract(list, keyList)
			expectLib(t, "Extract of "+keyText, got, err, chosen, api.OK)
			slices.Reverse(keyList)
		}
	}
	got, err := library.Extract(textbook(), keys("bern 2", "sine 1"))
	expectLib(t, "Extract of bern 2 and sine 1", got, err, []api.Entry{textbook()[0], textbook()[1], textbook()[4]}, api.OK)
}

// P9.5: libraries that are not sound: missing keys lead to nothing, and the first entry with a key stands alone.
func TestExtractTangled(t *testing.T) {
	for _, c := range []struct{ texts, key, want string }{
		{"a 1; b 1 <- a 2", "b 1", "b 1 <- a 2"},
		{"a 1; b 1 <- a 2; a 3", "b 1", "b 1 <- a 2"},
		{"a 1 <- b 1; b 1 <- a 1; c 1", "b 1", "a 1 <- b 1; b 1 <- a 1"},
		{"b 1 <- a 1; a 1", "b 1", "b 1 <- a 1; a 1"},
		{"a 1; a 1 <- b 1; b 1; a 2; a 1", "a 2", "a 1; a 2"},
		{"a 1 <- b 1; a 1; b 1; a 2; b 1 <- c 1; c 1", "a 2", "a 1 <- b 1; b 1; a 2"},
		{"a 2; a 0; a -5 <- b 1; b 1; a 7", "a 2", "a 2; a 0; a -5 <- b 1; b 1"},
		{"a 2; a 0; a -5 <- b 1; b 1; a 7", "a -5", "a -5 <- b 1; b 1"},
		{" 2;  1; A 1;  3", " 2", " 2;  1"},
	} {
		got, err := library.Extract(lib(strings.Split(c.texts, "; ")...), keys(c.key))
		expectLib(t, "Extract of "+c.key+" from "+c.texts, got, err, lib(strings.Split(c.want, "; ")...), api.OK)
	}
	for _, texts := range [][]string{{"z 1"}, {"sine 3"}, {"sine 0"}, {"sine 1", "sine 2", "Sine 1"}, {" 0", "sine 1"}} {
		got, err := library.Extract(textbook(), keys(texts...))
		expectLib(t, "Extract of "+texts[0], got, err, nil, api.ErrEntry)
		got, err = library.Extract(nil, keys(texts...))
		expectLib(t, "Extract from an empty library", got, err, nil, api.ErrEntry)
	}
}

// P9.5: a, and behind it what b has beyond it.
func TestMerge(t *testing.T) {
	for _, c := range []struct{ a, b, want string }{
		{"", "", ""}, {"a 1", "", "a 1"}, {"", "a 1", "a 1"}, {"a 1", "a 1", "a 1"}, {"a 1", "b 1", "a 1; b 1"}, {"b 1", "a 1", "b 1; a 1"}, {"a 1", "a 1; a 2; b 1 <- a 2", "a 1; a 2; b 1 <- a 2"}, {"a 1; a 2", "a 1; b 1 <- a 1", "a 1; a 2; b 1 <- a 1"},
		{"a 1; b 1 <- a 1", "a 1 <- c 1", "error"}, {"a 1", "b 1; a 1 <- b 1", "error"}, {"a 1 <- b 1", "a 1 <- b 2", "error"}, {"a 1", "c 1; a 1; a 1 <- a 1", "error"},
		// several entries with one key
		{"a 1; a 1 <- b 1; c 1", "a 1; d 1", "a 1; a 1 <- b 1; c 1; d 1"}, {"a 1; a 1 <- b 1", "a 1 <- b 1", "error"}, {"a 1", "b 1 <- a 1; c 1; b 1; a 1; b 1", "a 1; b 1 <- a 1; c 1"}, {"", "a 1; a 1 <- a 1; a 1", "a 1"}, {"a 1; a 1", "b 1", "a 1; a 1; b 1"},
		{"a 2", "a 1; a -1;  0", "a 2; a 1; a -1;  0"},
	} {
		list := func(texts string) []api.Entry {
			if texts == "" {
				return nil
			}
			return lib(strings.Split(texts, "; ")...)
		}
		got, err := library.Merge(list(c.a), list(c.b))
		what := "Merge of " + c.a + " and " + c.b
		if c.want == "error" {
			expectLib(t, what, got, err, nil, api.ErrEntry)
		} else {
			expectLib(t, what, got, err, list(c.want), api.OK)
		}
	}
	got, err := library.Merge(textbook()[:3], disguisedLib(textbook()))
	expectLib(t, "Merge with equal entries", got, err, textbook(), api.OK)
}

// P9.5: entries with one key must be equal in their claims and in their proofs.
func TestMergeDifferences(t *testing.T) {
	b := textbook()
	for i := range b {
		for what, edit := range map[string]func(e *api.Entry){
			"goal":   func(e *api.Entry) { e.Claim.Goal = ex("1 + 0") },
			"strict": func(e *api.Entry) { e.Claim.Strict = !e.Claim.Strict },
			"side":   func(e *api.Entry) { e.Claim.Box = append(e.Claim.Box, cl("1 > 0 for zz in [0, 1]").Box...) },
			"end": func(e *api.Entry) {
				e.Claim.Box = slices.Clone(e.Claim.Box)
				e.Claim.Box[0].Iv.HiInf = !e.Claim.Box[0].Iv.HiInf
			},
			"condition":    func(e *api.Entry) { e.Claim.Conds = append(e.Claim.Conds, api.Cond{E: ex("1")}) },
			"no condition": func(e *api.Entry) { e.Claim.Conds = nil },
			"rule":         func(e *api.Entry) { e.Proof.Rule++ },
			"precision":    func(e *api.Entry) { e.Proof.Prec++ },
			"kid":          func(e *api.Entry) { e.Proof.Kids = append(e.Proof.Kids, api.Step{}) },
			"no proof":     func(e *api.Entry) { e.Proof = api.Step{} },
		} {
			if what == "no condition" && len(b[i].Claim.Conds) == 0 {
				continue
			}
			changed := textbook()
			edit(&changed[i])
			for _, c := range [][2][]api.Entry{{b, changed}, {changed, b}, {b, changed[i:]}, {changed[:i+1], b}} {
				got, err := library.Merge(c[0], c[1])
				expectLib(t, "Merge with another "+what, got, err, nil, api.ErrEntry)
			}
			got, err := library.Merge(b[:i], changed[i:i+1])
			expectLib(t, "Merge with an entry alone", got, err, append(textbook()[:i], changed[i]), api.OK)
		}
	}
	// claims that are not valid are never equal, but may be taken over
	for _, c := range badClaims()[:2] {
		bad := []api.Entry{{Name: "z", Ver: 1, Claim: c}}
		got, err := library.Merge(bad, bad)
		expectLib(t, "Merge of invalid claims", got, err, nil, api.ErrEntry)
		got, err = library.Merge(bad, b)
		expectLib(t, "Merge behind an invalid claim", got, err, append(slices.Clone(bad), b...), api.OK)
	}
}

// P9.5: at most MaxEntry entries, and ErrEntry first.
func TestMergeLimit(t *testing.T) {
	list := numbered(200)
	got, err := library.Merge(list[:100], list)
	expectLib(t, "Merge of 200 entries", got, err, list, api.OK)
	got, err = library.Merge(list, list[50:])
	expectLib(t, "Merge with nothing new", got, err, list, api.OK)
	got, err = library.Merge(list, lib("c 1"))
	expectLib(t, "Merge of 201 entries", got, err, nil, api.ErrLimit)
	got, err = library.Merge(lib("c 1"), list)
	expectLib(t, "Merge of 201 entries", got, err, nil, api.ErrLimit)
	got, err = library.Merge(lib("a 1", "a 1"), list)
	expectLib(t, "Merge with a key twice", got, err, nil, api.ErrLimit)
	got, err = library.Merge(nil, append(numbered(200), numbered(200)...))
	expectLib(t, "Merge with all keys twice", got, err, list, api.OK)
	got, err = library.Merge(numbered(201), nil)
	expectLib(t, "Merge of 201 entries and none", got, err, nil, api.ErrLimit)
	got, err = library.Merge(numbered(300), lib("c 1", "a 150 <- b 1"))
	expectLib(t, "Merge of too many with a difference", got, err, nil, api.ErrEntry)
}
