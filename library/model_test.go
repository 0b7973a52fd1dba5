package library_test

import (
	"math/rand"
	"slices"
	"sort"
	"strconv"
	"testing"

	"inequality/api"
	"inequality/check"
	"inequality/claim"
	"inequality/expr"
	"inequality/library"
)

// This file transcribes the promises on lists of entries in the most literal way, and compares them with the program on random libraries, which need not be sound.

// A source makes random libraries.
type source struct {
	*rand.Rand
}

// key returns one of the keys that random libraries have or lack.
func (s source) key() api.Key {
	return api.Key{Name: []string{"a", "b", "c", "", "B"}[s.Intn(5)], Ver: s.Intn(6) - 1}
}

// entry returns an entry with a random key, which uses some keys at random places of its proof.
func (s source) entry() api.Entry {
	k := s.key()
	return api.Entry{Name: k.Name, Ver: k.Ver, Claim: cl([]string{"1 > 0", "2 > 0"}[s.Intn(2)]), Proof: s.proof(s.Intn(4))}
}

// proof returns a proof with this number of uses.
func (s source) proof(uses int) api.Step {
	if uses == 0 {
		return pf("0 range 8")
	}
	k := s.key()
	kid := api.Step{Rule: api.RuleLemma, Entry: k.Name, Ver: k.Ver, Kids: []api.Step{s.proof((uses - 1) / 2)}}
	if s.Intn(2) == 0 {
		return kid
	}
	return api.Step{Rule: api.RuleCut, Name: "x", Entry: "a", Ver: 1, Kids: []api.Step{kid, s.proof(uses / 2)}}
}

// lib returns a library with fewer than n entries.
func (s source) lib(n int) []api.Entry {
	var list []api.Entry
	for range s.Intn(n) {
		list = append(list, s.entry())
	}
	return list
}

// own returns the key of an entry.
func own(e api.Entry) api.Key {
	return api.Key{Name: e.Name, Ver: e.Ver}
}

// usedBy adds the keys that a proof uses to a set.
func usedBy(s api.Step, set map[api.Key]bool) {
	if s.Rule == api.RuleLemma {
		set[api.Key{Name: s.Entry, Ver: s.Ver}] = true
	}
	for _, kid := range s.Kids {
		usedBy(kid, set)
	}
}

// inOrder returns the texts of the keys of a set in ascending order.
func inOrder(set map[api.Key]bool) []string {
	var list []api.Key
	for k := range set {
		list = append(list, k)
	}
	sort.Slice(list, func(i, j int) bool {
		return list[i].Name < list[j].Name || list[i].Name == list[j].Name && list[i].Ver < list[j].Ver
	})
	return keyTexts(list)
}

// firstWith returns the index of the first entry with a key, or -1.
func firstWith(list []api.Entry, k api.Key) int {
	for i, e := range list {
		if own(e) == k {
			return i
		}
	}
	return -1
}

// greatest returns the greatest version of a name, at least 0.
func greatest(list []api.Entry, name string) int {
	ver := 0
	for _, e := range list {
		if e.Name == name && e.Ver > ver {
			ver = e.Ver
		}
	}
	return ver
}

// needed returns the keys that an entry needs: those that it uses, with those of their entries, until there are no more.
func needed(list []api.Entry, i int) map[api.Key]bool {
	set := map[api.Key]bool{}
	usedBy(list[i].Proof, set)
	for size := -1; size < len(set); {
		size = len(set)
		for _, k := range keys(inOrder(set)...) {
			if j := firstWith(list, k); j >= 0 {
				usedBy(list[j].Proof, set)
			}
		}
	}
	return set
}

// extracted returns the indexes of the entries that Extract takes: whether each is one is asked again and again.
func extracted(list []api.Entry, from []api.Key) []api.Entry {
	taken := make([]bool, len(list))
	for _, k := range from {
		taken[firstWith(list, k)] = true
	}
	for range list {
		for i, e := range list {
			if !taken[i] {
				continue
			}
			for k := range needed(list, i) {
				if j := firstWith(list, k); j >= 0 {
					taken[j] = true
				}
			}
			for j, d := range list {
				if d.Name == e.Name && d.Ver < e.Ver && firstWith(list, own(d)) == j {
					taken[j] = true
				}
			}
		}
	}
	var part []api.Entry
	for i, e := range list {
		if taken[i] {
			part = append(part, e)
		}
	}
	return part
}

// merged returns what Merge returns.
func merged(a, b []api.Entry) ([]api.Entry, api.Errno) {
	list := slices.Clone(a)
	for _, e := range b {
		if i := firstWith(a, own(e)); i >= 0 {
			if same, err := claim.Equal(a[i].Claim, e.Claim); !same || err != api.OK || !check.Equal(a[i].Proof, e.Proof) {
				return nil, api.ErrEntry
			}
		}
		if firstWith(list, own(e)) < 0 {
			list = append(list, e)
		}
	}
	return list, api.OK
}

// dropped returns what Drop returns.
func dropped(list []api.Entry, k api.Key) ([]api.Entry, api.Errno) {
	i := firstWith(list, k)
	if i < 0 {
		return nil, api.ErrEntry
	}
	for j, e := range list {
		set := map[api.Key]bool{}
		usedBy(e.Proof, set)
		if j != i && set[k] {
			return nil, api.ErrUsed
		}
	}
	if greatest(list, k.Name) > k.Ver {
		return nil, api.ErrUsed
	}
	return without(list, i), api.OK
}

// firstWrong returns the index of the first entry that makes a library with few entries unsound, or -1.
func firstWrong(list []api.Entry) int {
	for i, e := range list {
		same := 0
		for _, d := range list[:i] {
			if d.Name == e.Name {
				same++
			}
		}
		set := map[api.Key]bool{}
		usedBy(e.Proof, set)
		for k := range set {
			if firstWith(list[:i], k) < 0 {
				return i
			}
		}
		if !expr.IsName(e.Name) || e.Ver != same+1 || check.Check(list[:i], e.Claim, e.Proof).Err != api.OK {
			return i
		}
	}
	return -1
}

// P9.1 to P9.5 for all keys in random libraries.
func TestModel(t *testing.T) {
	s := source{rand.New(rand.NewSource(9))}
	outcomes := map[string]int{}
	for range 1500 {
		list := s.lib(12)
		what := strconv.Itoa(len(list)) + " entries"
		all := map[api.Key]bool{}
		for _, e := range list {
			all[own(e)] = true
		}
		expectKeys(t, "Keys", library.Keys(list), api.OK, inOrder(all), api.OK)
		expectSound(t, what, list, firstWrong(list))
		for range 6 {
			k := s.key()
			i := firstWith(list, k)
			if got, ok := library.Find(list, k); ok != (i >= 0) || got != max(i, 0) {
				t.Errorf("Find is %d, %v, want %d", got, ok, i)
			}
			if got := library.Latest(list, k.Name); got != greatest(list, k.Name) {
				t.Errorf("Latest is %d, want %d", got, greatest(list, k.Name))
			}
			modelUses(t, list, k, i)
			want, wantErr := dropped(list, k)
			got, err := library.Drop(list, k)
			expectLib(t, "Drop", got, err, want, wantErr)
			outcomes["Drop "+strconv.Itoa(int(err))]++
			modelExtract(t, s, list, outcomes)
		}
		b := s.lib(12)
		if s.Intn(2) == 0 { // so that some have keys in common
			b = append(b, list...)
			s.Shuffle(len(b), func(i, j int) { b[i], b[j] = b[j], b[i] })
			b = b[:len(b)/2]
		}
		want, wantErr := merged(list, b)
		got, err := library.Merge(list, b)
		expectLib(t, "Merge", got, err, want, wantErr)
		outcomes["Merge "+strconv.Itoa(int(err))]++
	}
	for _, outcome := range []string{"Drop 0", "Drop 90", "Drop 91", "Extract 0", "Extract 90", "Merge 0", "Merge 90"} {
		if outcomes[outcome] < 100 {
			t.Errorf("%s: only %d times", outcome, outcomes[outcome])
		}
	}
}

// modelUses compares Uses, Needs and Users of a key whose first entry has the index i.
func modelUses(t *testing.T, list []api.Entry, k api.Key, i int) {
	t.Helper()
	uses, needs, users := map[api.Key]bool{}, map[api.Key]bool{}, map[api.Key]bool{}
	wantErr := api.ErrEntry
	if i >= 0 {
		wantErr = api.OK
		usedBy(list[i].Proof, uses)
		needs = needed(list, i)
		for _, e := range list {
			set := map[api.Key]bool{}
			usedBy(e.Proof, set)
			if set[k] {
				users[own(e)] = true
			}
		}
	}
	got, err := library.Uses(list, k)
	expectKeys(t, "Uses", got, err, inOrder(uses), wantErr)
	got, err = library.Needs(list, k)
	expectKeys(t, "Needs", got, err, inOrder(needs), wantErr)
	got, err = library.Users(list, k)
	expectKeys(t, "Users", got, err, inOrder(users), wantErr)
}

// modelExtract compares Extract of random keys.
func modelExtract(t *testing.T, s source, list []api.Entry, outcomes map[string]int) {
	t.Helper()
	var from []api.Key
	wantErr := api.OK
	for range s.Intn(3) {
		from = append(from, s.key())
	}
	for _, k := range from {
		if firstWith(list, k) < 0 {
			wantErr = api.ErrEntry
		}
	}
	var want []api.Entry
	if wantErr == api.OK {
		want = extracted(list, from)
	}
	got, err := library.Extract(list, from)
	expectLib(t, "Extract", got, err, want, wantErr)
	outcomes["Extract "+strconv.Itoa(int(err))]++
}
