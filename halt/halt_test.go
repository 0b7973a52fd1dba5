package halt_test

import (
	"testing"

	"inequality/api"
	"inequality/halt"
)

// An operation returns its first error, and nothing beside it.
func TestRun(t *testing.T) {
	reached := false
	result, err := halt.Run(func() []int {
		halt.Must(1, api.OK)
		list := []int{halt.Must(2, api.OK)}
		list[0] = halt.Must(3, api.ErrZero)
		reached = true
		halt.Must(4, api.ErrSize)
		return list
	})
	if result != nil || err != api.ErrZero || reached {
		t.Errorf("the operation returns %v, %d, %v", result, err, reached)
	}
	if n, err := halt.Run(func() int { return halt.Must(5, api.OK) }); n != 5 || err != api.OK {
		t.Errorf("an operation without an error returns %d, %d", n, err)
	}
}

// A mistake of the program is not taken for an error of an operation.
func TestOtherPanic(t *testing.T) {
	defer func() {
		if recover() != "mistake" {
			t.Error("the panic was hidden")
		}
	}()
	halt.Run(func() int { panic("mistake") })
}
