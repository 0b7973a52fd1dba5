package interval

import (
	"testing"

	"inequality/api"
)

// An operation returns its first error, and nothing beside it.
func TestFinish(t *testing.T) {
	reached := false
	result, err := finish(func() []int {
		must(1, api.OK)
		list := []int{must(2, api.OK)}
		list[0] = must(3, api.ErrZero)
		reached = true
		must(4, api.ErrSize)
		return list
	})
	if result != nil || err != api.ErrZero || reached {
		t.Errorf("the operation returns %v, %d, %v", result, err, reached)
	}
	if n, err := finish(func() int { return must(5, api.OK) }); n != 5 || err != api.OK {
		t.Errorf("an operation without an error returns %d, %d", n, err)
	}
}

// A mistake of the program is not taken for an error of an operation.
func TestOtherPanic(t *testing.T) {
	defer func() {
		if recover() != "mistake" {
			t.Error("the panic was hidden")
		}
	}()
	finish(func() int { panic("mistake") })
}
