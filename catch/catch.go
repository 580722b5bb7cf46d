// Package catch: errors that go out of loops by a panic, recovered at a layer's face.
package catch

import "ballast/api"

// Errno answers what work makes, or the api.Errno that goes out of it by a panic, and a zero value beside it.
func Errno[T any](work func() T) (made T, e api.Errno) {
	defer func() {
		if r := recover(); r != nil {
			e = r.(api.Errno)
		}
	}()
	return work(), api.OK
}

// Sound answers what was made, or panics with its error: who calls it is inside of Errno's work.
func Sound[T any](made T, e api.Errno) T {
	if e != api.OK {
		panic(e)
	}
	return made
}
