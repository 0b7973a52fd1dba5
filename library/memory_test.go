package library_test

import (
	"fmt"
	"reflect"
	"testing"

	"inequality/api"
	"inequality/library"
)

// addresses adds the addresses of the arrays of all slices in v to seen, and reports whether none was there.
func addresses(v reflect.Value, seen map[uintptr]bool) bool {
	fresh := true
	switch v.Kind() {
	case reflect.Slice:
		if v.Cap() > 0 {
			fresh = !seen[v.Pointer()]
			seen[v.Pointer()] = true
		}
		for i := range v.Len() {
			fresh = addresses(v.Index(i), seen) && fresh
		}
	case reflect.Struct:
		for i := range v.NumField() {
			fresh = addresses(v.Field(i), seen) && fresh
		}
	}
	return fresh
}

// roomy returns a list with elements behind its end, which are not a part of it.
func roomy[T any](list []T, behind ...T) []T {
	return append(append(make([]T, 0, len(list)+len(behind)), list...), behind...)[:len(list)]
}

// all returns all of the memory of a list.
func all[T any](list []T) []T {
	return list[:cap(list)]
}

// R3, R4: arguments are not changed, also behind their ends, and results share no memory with them or within themselves.
func TestMemory(t *testing.T) {
	books := disguisedLib(textbook())
	one := entry("a 1")
	one.Proof = books[1].Proof
	one.Claim = books[1].Claim // entries may share memory with one another
	lib := roomy(append(books, one), entry("a 2 <- a 1"), entry("a 3"))
	other := roomy([]api.Entry{one, one, entry("b 1")}, entry("b 2"))
	chosen := roomy([]api.Key{key("sum 2"), key("a 1")}, key("sine 2"), key("lost 1"), key("lost 2"))
	sine, bern := key("sine 1"), books[1]
	bytes := roomy([]byte(logOf(textbook())), []byte(logOf(textbook()))...)
	calls := map[string]func() []any{
		"Sound":       func() []any { i, ok := library.Sound(lib); return []any{i, ok} },
		"Find":        func() []any { i, ok := library.Find(lib, sine); return []any{i, ok} },
		"Latest":      func() []any { return []any{library.Latest(lib, "a")} },
		"Keys":        func() []any { return []any{library.Keys(lib)} },
		"Uses":        func() []any { l, err := library.Uses(lib, key("sum 1")); return []any{l, err} },
		"Needs":       func() []any { l, err := library.Needs(lib, key("sum 2")); return []any{l, err} },
		"Users":       func() []any { l, err := library.Users(lib, sine); return []any{l, err} },
		"Add":         func() []any { l, n, err := library.Add(lib, "a", bern.Claim, bern.Proof); return []any{l, n, err} },
		"Add, wrong":  func() []any { l, n, err := library.Add(lib, "a", bern.Claim, books[0].Proof); return []any{l, n, err} },
		"Drop":        func() []any { l, err := library.Drop(lib, key("a 1")); return []any{l, err} },
		"Drop, wrong": func() []any { l, err := library.Drop(lib, sine); return []any{l, err} },
		"Extract":     func() []any { l, err := library.Extract(lib, chosen); return []any{l, err} },
		"Extract all": func() []any { l, err := library.Extract(lib, library.Keys(lib)); return []any{l, err} },
		"Merge":       func() []any { l, err := library.Merge(lib, other); return []any{l, err} },
		"Merge, same": func() []any { l, err := library.Merge(lib, lib); return []any{l, err} },
		"Covers":      func() []any { ok, err := library.Covers(lib, sine, books[0].Claim); return []any{ok, err} },
		"Encode":      func() []any { b, err := library.Encode(lib); return []any{b, err} },
		"Decode":      func() []any { l, err := library.Decode(bytes); return []any{l, err} },
		"Recover":     func() []any { l, n := library.Recover(bytes); return []any{l, n} },
	}
	state := func() string { return fmt.Sprint(all(lib), all(other), all(chosen), all(bytes), bern) }
	before := state()
	for name, call := range calls {
		first := call()
		seen := map[uintptr]bool{}
		for _, arg := range []any{all(lib), all(other), all(chosen), all(bytes), bern} {
			addresses(reflect.ValueOf(arg), seen)
		}
		for _, result := range first {
			if !addresses(reflect.ValueOf(result), seen) {
				t.Errorf("a result of %s shares memory", name)
			}
		}
		if state() != before {
			t.Fatalf("%s changes its arguments", name)
		}
		if again := call(); fmt.Sprint(again...) != fmt.Sprint(first...) {
			t.Errorf("%s returns %v, then %v", name, first, again)
		}
	}
}
