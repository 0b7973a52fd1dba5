// Package halt lets an operation end at its first error by a panic with that error, so that what the operation consists of need not pass errors on.
package halt

import "inequality/api"

// Must returns the result x of a part of an operation. The operation ends if the part has an error.
func Must[T any](x T, err api.Errno) T {
	Unless(err == api.OK, err)
	return x
}

// Unless ends an operation with this error if ok is false.
func Unless(ok bool, err api.Errno) {
	if !ok {
		panic(err)
	}
}

// Run carries out an operation and returns its result, or the error at which it ended.
func Run[T any](op func() T) (result T, err api.Errno) {
	defer func() {
		switch reason := recover().(type) {
		case nil:
		case api.Errno:
			err = reason
		default: // a mistake of the program, whose result could be believed if it were hidden
			panic(reason)
		}
	}()
	return op(), api.OK
}
