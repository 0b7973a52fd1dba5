package library_test

import (
	"math"
	"strconv"
	"strings"
	"testing"

	"inequality/api"
	"inequality/library"
)

// expectSound checks what Sound returns; want is the index of the first wrong entry, or -1.
func expectSound(t *testing.T, what string, list []api.Entry, want int) {
	t.Helper()
	if i, ok := library.Sound(list); ok != (want < 0) || i != max(want, 0) {
		t.Errorf("%s: Sound returns %d, %v, want %d", what, i, ok, want)
	}
}

// P9.1: libraries that are sound.
func TestSound(t *testing.T) {
	for _, list := range [][]api.Entry{nil, {}, textbook(), disguisedLib(textbook()), lib("a 1"), lib("a 1", "a 2", "b 1", "a 3", "b 2"), lib("a 1", "a 2 <- a 1", "b 1 <- a 2, a 1", "c2345678 1 <- b 1, b 1")} {
		expectSound(t, strings.Join(describe(list), " "), list, -1)
		for i := range list {
			expectSound(t, "a beginning", list[:i], -1)
		}
	}
}

// P9.1: names, versions and uses that are wrong at one place.
func TestSoundKeys(t *testing.T) {
	for _, c := range []struct {
		texts string
		want  int
	}{
		{" 1", 0}, {"A 1", 0}, {"a_ 1", 0}, {"1a 1", 0}, {"a23456789 1", 0}, {"sin 1", 0}, {"where 1", 0}, {"a 1; B 1; c 0", 1}, {"a\xff 1", 0},
		{"a 0", 0}, {"a 2", 0}, {"a -1", 0}, {"a 1; a 1", 1}, {"a 1; a 3", 1}, {"a 2; a 1", 0}, {"a 1; b 2", 1}, {"a 1; b 1; a 2; b 3", 3}, {"a 1; a 2; a 3; a 2", 3}, {"a 1; a 0", 1}, {"a " + strconv.Itoa(math.MaxInt), 0}, {"a 1; a " + strconv.Itoa(math.MinInt), 1},
		{"a 1 <- a 1", 0}, {"a 1 <- b 1; b 1", 0}, {"a 1; b 1 <- a 2; a 2", 1}, {"a 1; b 1 <- a 1, c 1", 1}, {"a 1; b 1 <- a 0", 1}, {"a 1; b 1 <- a 1; c 1 <- b 1, b 2; b 2", 2}, {"a 1 <- b 1; b 1 <- a 1", 0}, {"a 1; b 1 <-  0", 1},
	} {
		list := lib(strings.Split(c.texts, "; ")...)
		expectSound(t, c.texts, list, c.want)
		expectSound(t, c.texts+" in front", list[:c.want], -1)
		front := append(textbook(), list...)
		expectSound(t, c.texts+" behind others", front, 6+c.want)
	}
}

// P9.1: claims and proofs that are wrong at one place.
func TestSoundProofs(t *testing.T) {
	for i, e := range textbook() {
		change := func(what string, edit func(e *api.Entry)) {
			list := append(textbook(), lib("last 1")...)
			edit(&list[i])
			expectSound(t, what+" "+e.Name, list, i)
		}
		for _, bad := range badClaims() {
			change("invalid claim", func(e *api.Entry) { e.Claim = bad })
		}
		change("no proof", func(e *api.Entry) { e.Proof = api.Step{} })
		change("weak proof", func(e *api.Entry) { e.Proof = pf("0 range 8") })
		change("unused field", func(e *api.Entry) { e.Proof.K = 1 })
		change("precision", func(e *api.Entry) { e.Proof.Prec = 129 })
		change("false claim", func(e *api.Entry) { e.Claim.Goal = ex("-1") })
		change("one kid more", func(e *api.Entry) { e.Proof.Kids = append(e.Proof.Kids, pf("0 range 8")) })
		if len(e.Proof.Kids) > 0 {
			change("one kid less", func(e *api.Entry) { e.Proof.Kids = e.Proof.Kids[1:] })
		}
	}
	// an entry in front of it that says something else, though it is proved
	list := textbook()
	list[0] = stated("sine 1", "x >= sin(x) for x in [0, 1]", "0 rise x 8\n1 range 8")
	expectSound(t, "lemma for fewer points", list, 2)
	list[0] = stated("sine 1", "2 * x >= sin(x) for x in [0, inf)", "0 rise x 8\n1 range 8")
	expectSound(t, "lemma that states less", list, 2)
	list = textbook()
	list[4] = stated("bern 2", "exp(x) > x for x in [-1, 1], y in [0, 1] where x + y >= 0, 1 - x >= 0", "0 lemma bern 1 [x={x}] 8\n1 add 2 1\n2 same {1} 8\n3 range 8")
	expectSound(t, "lemma with a weaker condition", list, -1)
	list[4] = stated("bern 2", "exp(x) > x for x in [-1, 1], y in [0, 1] where x + y > 0, 1 - x > 0", "0 lemma bern 1 [x={x}] 8\n1 add 2 1\n2 same {1} 8\n3 range 8")
	expectSound(t, "lemma with a stronger condition", list, 5)
	list = textbook()
	list[0], list[1] = list[1], list[0]
	expectSound(t, "another order", list, -1)
	list[0], list[3] = list[3], list[0]
	expectSound(t, "a lemma that comes later", list, 0)
}

// P9.1: proofs that are too large for Check are wrong, without going through all of them.
func TestSoundEndless(t *testing.T) {
	s := api.Step{Rule: api.RuleLemma, Entry: "a", Ver: 1, Kids: make([]api.Step, 1)}
	s.Kids[0] = s
	list := append(lib("a 1"), api.Entry{Name: "b", Ver: 1, Claim: cl("1 > 0"), Proof: s})
	expectSound(t, "endless proof", list, 1)
}

// P9.1: a library has at most MaxEntry entries.
func TestSoundLimit(t *testing.T) {
	expectSound(t, "200 entries", numbered(200), -1)
	expectSound(t, "201 entries", numbered(201), 200)
	expectSound(t, "1000 entries", numbered(1000), 200)
	for _, i := range []int{0, 57, 199} {
		list := numbered(300)
		list[i].Proof.Prec = -1
		expectSound(t, "300 entries with a wrong one", list, i)
	}
	list := numbered(300)
	list[200].Proof.Prec = -1
	expectSound(t, "300 entries with a wrong one behind the limit", list, 200)
}
