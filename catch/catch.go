// Package catch: what goes out of loops by a panic, recovered at a layer's face.
package catch

import "ballast/api"

// Errno answers what work makes, or the api.Errno that goes out of it by a panic, and a zero value beside it.
func Errno[T any](work func() T) (made T, e api.Errno) {
	defer func() {
		if r := recover(); r != nil {
			e = r.(api.Errno)
		}
	}()
	return work(), api.OK
}

// Sound answers what was made, or panics with its error: who calls it is inside of Errno's work.
func Sound[T any](made T, e api.Errno) T {
	if e != api.OK {
		panic(e)
	}
	return made
}

// Found answers the T that goes out of seek by a panic; a false tells that seek came to its end, so that there is none.
func Found[T any](seek func()) (found T, there bool) {
	defer func() {
		if r := recover(); r != nil {
			found, there = r.(T), true
		}
	}()
	seek()
	return found, false
}
