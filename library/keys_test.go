package library_test

import (
	"math"
	"slices"
	"strconv"
	"testing"

	"inequality/api"
	"inequality/library"
)

// P9.1: the first entry with a key is found.
func TestFind(t *testing.T) {
	list := lib("b 1", "a 1", "a 2", "b 1", " 0", "a -3", "a 1")
	for text, want := range map[string]int{"b 1": 0, "a 1": 1, "a 2": 2, " 0": 4, "a -3": 5, "a 3": -1, "c 1": -1, "A 1": -1, "b 2": -1, "b 0": -1, " 1": -1, "ab 1": -1} {
		if i, ok := library.Find(list, key(text)); ok != (want >= 0) || i != max(want, 0) {
			t.Errorf("Find(%s) is %d, %v", text, i, ok)
		}
	}
	if i, ok := library.Find(nil, api.Key{}); i != 0 || ok {
		t.Errorf("Find in an empty library is %d, %v", i, ok)
	}
	if i, ok := library.Find([]api.Entry{{}}, api.Key{}); i != 0 || !ok {
		t.Errorf("Find of the zero key is %d, %v", i, ok)
	}
}

// P9.1: the greatest version of a name, in any order.
func TestLatest(t *testing.T) {
	list := lib("b 1", "a 3", "a 2", "c 0", "d -3", "e 0", "e -7", " 5", "A 9", "f "+strconv.Itoa(math.MaxInt), "g "+strconv.Itoa(math.MinInt), "h -1", "h 1", "h -2")
	for name, want := range map[string]int{"a": 3, "b": 1, "c": 0, "d": 0, "e": 0, "": 5, "A": 9, "f": math.MaxInt, "g": 0, "h": 1, "z": 0, "ab": 0} {
		if got := library.Latest(list, name); got != want {
			t.Errorf("Latest(%q) is %d, want %d", name, got, want)
		}
	}
	if got := library.Latest(nil, "a"); got != 0 {
		t.Errorf("Latest in an empty library is %d", got)
	}
}

// P9.1: all keys in ascending order, each once.
func TestKeys(t *testing.T) {
	for _, c := range []struct{ texts, want []string }{
		{nil, nil},
		{[]string{"a 1"}, []string{"a 1"}},
		{[]string{"b 10", "b 9", "ab 1", "a 2", "B 1", "b -1", " 3", "a 1", "b 9", "\xff 1", "a 2", "aa 0"}, []string{" 3", "B 1", "a 1", "a 2", "aa 0", "ab 1", "b -1", "b 9", "b 10", "\xff 1"}},
	} {
		expectKeys(t, "Keys", library.Keys(lib(c.texts...)), api.OK, c.want, api.OK)
	}
	expectKeys(t, "Keys of the textbook", library.Keys(textbook()), api.OK, []string{"bern 1", "bern 2", "sine 1", "sine 2", "sum 1", "sum 2"}, api.OK)
}

// tangle is a library in which entries use one another in every way.
func tangle() []api.Entry {
	return lib("a 1", "b 1 <- a 1", "c 1 <- b 1, a 2, a 1", "d 1 <- d 1", "e 1 <- f 1", "f 1 <- g 1, e 1", "g 1 <- f 1, lost 3", "a 1 <- c 1", "b 2 <- b 1, b 1", "lost 2", "h 1 <- lost 3, a 1, a 1", "b 1 <- d 1", "a 2 <- h 1")
}

// P9.2: the keys that an entry uses itself, all those that it needs, and its users.
func TestUses(t *testing.T) {
	for _, c := range []struct {
		key                string
		uses, needs, users []string
	}{
		{"a 1", nil, nil, []string{"b 1", "c 1", "h 1"}},
		{"a 2", []string{"h 1"}, []string{"a 1", "h 1", "lost 3"}, []string{"c 1"}},
		{"b 1", []string{"a 1"}, []string{"a 1"}, []string{"b 2", "c 1"}},
		{"b 2", []string{"b 1"}, []string{"a 1", "b 1"}, nil},
		{"c 1", []string{"a 1", "a 2", "b 1"}, []string{"a 1", "a 2", "b 1", "h 1", "lost 3"}, []string{"a 1"}},
		{"d 1", []string{"d 1"}, []string{"d 1"}, []string{"b 1", "d 1"}},
		{"e 1", []string{"f 1"}, []string{"e 1", "f 1", "g 1", "lost 3"}, []string{"f 1"}},
		{"f 1", []string{"e 1", "g 1"}, []string{"e 1", "f 1", "g 1", "lost 3"}, []string{"e 1", "g 1"}},
		{"g 1", []string{"f 1", "lost 3"}, []string{"e 1", "f 1", "g 1", "lost 3"}, []string{"f 1"}},
		{"h 1", []string{"a 1", "lost 3"}, []string{"a 1", "lost 3"}, []string{"a 2"}},
		{"lost 2", nil, nil, nil},
	} {
		k := key(c.key)
		used, err := library.Uses(tangle(), k)
		expectKeys(t, "Uses of "+c.key, used, err, c.uses, api.OK)
		needed, err := library.Needs(tangle(), k)
		expectKeys(t, "Needs of "+c.key, needed, err, c.needs, api.OK)
		users, err := library.Users(tangle(), k)
		expectKeys(t, "Users of "+c.key, users, err, c.users, api.OK)
	}
	used, err := library.Uses(textbook(), key("sum 2"))
	expectKeys(t, "Uses of sum 2", used, err, []string{"bern 2", "sine 1"}, api.OK)
	needed, err := library.Needs(textbook(), key("sum 2"))
	expectKeys(t, "Needs of sum 2", needed, err, []string{"bern 1", "bern 2", "sine 1"}, api.OK)
	users, err := library.Users(textbook(), key("sine 1"))
	expectKeys(t, "Users of sine 1", users, err, []string{"sine 2", "sum 1", "sum 2"}, api.OK)
}

// P9.2: the order of keys is bytewise by name, then by version, and each stands once.
func TestUsesOrder(t *testing.T) {
	list := lib("z 1 <- b 10, b 9, a 1, B 1,  2, ab 1, b 9, b -1", "b 9 <- b 1, aa 1", "c 1 <- b 9", "Z 1 <- b 9", "b 9", "c 1 <- b 9", "c -4 <- b 9")
	used, err := library.Uses(list, key("z 1"))
	expectKeys(t, "Uses", used, err, []string{" 2", "B 1", "a 1", "ab 1", "b -1", "b 9", "b 10"}, api.OK)
	needed, err := library.Needs(list, key("z 1"))
	expectKeys(t, "Needs", needed, err, []string{" 2", "B 1", "a 1", "aa 1", "ab 1", "b -1", "b 1", "b 9", "b 10"}, api.OK)
	users, err := library.Users(list, key("b 9"))
	expectKeys(t, "Users", users, err, []string{"Z 1", "c -4", "c 1", "z 1"}, api.OK)
}

// P9.2: a key that the library does not have.
func TestUsesErrors(t *testing.T) {
	for _, list := range [][]api.Entry{nil, tangle(), textbook()} {
		for _, k := range keys("lost 3", "a 0", "A 1", " 1", "z 1", "a -1") {
			used, err := library.Uses(list, k)
			expectKeys(t, "Uses", used, err, nil, api.ErrEntry)
			needed, err := library.Needs(list, k)
			expectKeys(t, "Needs", needed, err, nil, api.ErrEntry)
			users, err := library.Users(list, k)
			expectKeys(t, "Users", users, err, nil, api.ErrEntry)
		}
	}
}

// P9.2: a long chain of uses, forward and backward.
func TestNeedsChain(t *testing.T) {
	var list []api.Entry
	for i := range 3000 {
		list = append(list, entry("a "+strconv.Itoa(i)+" <- a "+strconv.Itoa(i+1)))
	}
	for range 2 {
		needed, err := library.Needs(list, key("a 5"))
		if err != api.OK || len(needed) != 2995 || needed[0].Ver != 6 || needed[2994].Ver != 3000 {
			t.Errorf("Needs of the chain: %d keys, error %d", len(needed), err)
		}
		slices.Reverse(list)
	}
}
