// Package checks finds the first error in the order in which a chapter lists them.
package checks

import (
	"cmp"

	"tideway/api"
)

// First returns the first of errors that is not OK, or OK.
func First(errors ...api.Errno) api.Errno {
	for _, e := range errors {
		if e != api.OK {
			return e
		}
	}
	return api.OK
}

// Each returns the error of the first element with one, or OK.
func Each[T any](l []T, check func(T) api.Errno) api.Errno {
	for _, x := range l {
		if e := check(x); e != api.OK {
			return e
		}
	}
	return api.OK
}

// Unless returns OK if a condition holds, and the error if not.
func Unless(holds bool, e api.Errno) api.Errno {
	if holds {
		return api.OK
	}
	return e
}

// Range returns ErrRange if a number is not from low to high.
func Range(x, low, high int) api.Errno {
	return Unless(low <= x && x <= high, api.ErrRange)
}

// Most returns ErrMany if there are more than most elements.
func Most(n, most int) api.Errno {
	return Unless(n <= most, api.ErrMany)
}

// Count returns ErrEmpty if there are no elements, ErrMany if there are more than most.
func Count(n, most int) api.Errno {
	return First(Unless(n > 0, api.ErrEmpty), Most(n, most))
}

// Index returns ErrUnknown if a number is not the index of one of n elements.
func Index(number, n int) api.Errno {
	return Unless(0 <= number && number < n, api.ErrUnknown)
}

// Known returns ErrUnknown if a map does not have a key.
func Known[K comparable, V any](m map[K]V, key K) api.Errno {
	_, found := m[key]
	return Unless(found, api.ErrUnknown)
}

// Once returns a check of keys: its error is ErrTwice for a key that it has checked before.
func Once[K comparable]() func(key K) api.Errno {
	checked := map[K]bool{}
	return func(key K) api.Errno {
		twice := checked[key]
		checked[key] = true
		return Unless(!twice, api.ErrTwice)
	}
}

// Ascending returns a check of numbers or strings: its error is ErrOrder for one that is not above the one that it has checked last.
func Ascending[T cmp.Ordered]() func(x T) api.Errno {
	var last T
	first := true
	return func(x T) api.Errno {
		above := first || x > last
		last, first = x, false
		return Unless(above, api.ErrOrder)
	}
}
