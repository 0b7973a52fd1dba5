package library

import (
	"cmp"
	"maps"
	"slices"
	"strings"

	"inequality/api"
	"inequality/check"
)

// keyOf returns the key of an entry.
func keyOf(e api.Entry) api.Key {
	return api.Key{Name: e.Name, Ver: e.Ver}
}

// compare orders keys by name, then by version.
func compare(k, l api.Key) int {
	return cmp.Or(strings.Compare(k.Name, l.Name), cmp.Compare(k.Ver, l.Ver))
}

// ascending returns the keys of a map in ascending order.
func ascending[T any](keys map[api.Key]T) []api.Key {
	return slices.SortedFunc(maps.Keys(keys), compare)
}

// counter counts the entries with each name.
type counter map[string]int

// next counts one more entry with this name and returns its version.
func (c counter) next(name string) int {
	c[name]++
	return c[name]
}

// isUser reports whether an entry uses the key k.
func isUser(e api.Entry, k api.Key) bool {
	return slices.Contains(check.Uses(e.Proof), k)
}

// catalog is a library together with the index of the first entry with each key, the only one that counts.
type catalog struct {
	lib   []api.Entry
	first map[api.Key]int
}

// catalogOf returns the catalog of a library.
func catalogOf(lib []api.Entry) catalog {
	first := map[api.Key]int{}
	for i, e := range slices.Backward(lib) {
		first[keyOf(e)] = i
	}
	return catalog{lib, first}
}

// has reports whether there is an entry with the key k.
func (c catalog) has(k api.Key) bool {
	_, ok := c.first[k]
	return ok
}

// uses returns the keys that the entry with the key k uses, none if there is no such entry.
func (c catalog) uses(k api.Key) []api.Key {
	i, ok := c.first[k]
	if !ok {
		return nil
	}
	return check.Uses(c.lib[i].Proof)
}

// earlier returns the keys of the entries with lower versions than the entry with the key k, none if there is no such entry.
func (c catalog) earlier(k api.Key) []api.Key {
	if !c.has(k) {
		return nil
	}
	var keys []api.Key
	for _, e := range c.lib {
		if e.Name == k.Name && e.Ver < k.Ver {
			keys = append(keys, keyOf(e))
		}
	}
	return keys
}

// chosen returns the first entries with those keys that are wanted.
func (c catalog) chosen(isWanted func(k api.Key) bool) []api.Entry {
	var list []api.Entry
	for i, e := range c.lib {
		if c.first[keyOf(e)] == i && isWanted(keyOf(e)) {
			list = append(list, e)
		}
	}
	return list
}

// reached returns the given keys and those to which the ways lead from them, one after another.
func reached(keys []api.Key, ways ...func(k api.Key) []api.Key) map[api.Key]bool {
	found := map[api.Key]bool{}
	var list []api.Key
	meet := func(keys []api.Key) {
		for _, k := range keys {
			if !found[k] {
				found[k] = true
				list = append(list, k)
			}
		}
	}
	meet(keys)
	for i := 0; i < len(list); i++ { // the list grows on the way
		for _, way := range ways {
			meet(way(list[i]))
		}
	}
	return found
}
