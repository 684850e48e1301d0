package store

import "satchel/api"

// Demand gives up if there is an error.
func Demand(e api.Errno) {
	if e != api.OK {
		panic(e)
	}
}

// Expect gives up with an error unless something is right.
func Expect(right bool, e api.Errno) {
	if !right {
		panic(e)
	}
}

// Must returns what a call answered, and gives up if that is an error.
func Must[T any](answer T, e api.Errno) T {
	Demand(e)
	return answer
}
