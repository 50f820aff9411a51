// Package lists makes lists of others, and finds their elements by keys.
package lists

// Transform returns the list of the results of f, element by element.
func Transform[T, U any](l []T, f func(T) U) []U {
	out := make([]U, 0, len(l))
	for _, x := range l {
		out = append(out, f(x))
	}
	return out
}

// Grouped returns the lists of the elements with the same key. The groups, and the elements of each one, stay in order.
func Grouped[T any, K comparable](l []T, key func(T) K) [][]T {
	index := map[K]int{}
	var out [][]T
	for _, x := range l {
		k := key(x)
		i, ok := index[k]
		if !ok {
			i = len(out)
			index[k] = i
			out = append(out, nil)
		}
		out[i] = append(out[i], x)
	}
	return out
}

// Distinct returns the elements of a list, each one once, in the order of their first places.
func Distinct[T comparable](l []T) []T {
	known := map[T]bool{}
	var out []T
	for _, x := range l {
		if !known[x] {
			known[x] = true
			out = append(out, x)
		}
	}
	return out
}

// Chosen returns the elements of a list that is chooses.
func Chosen[T any](l []T, is func(T) bool) []T {
	var out []T
	for _, x := range l {
		if is(x) {
			out = append(out, x)
		}
	}
	return out
}

// Indices returns the indices of the elements of a list by their keys, which are all different.
func Indices[T any, K comparable](l []T, key func(T) K) map[K]int {
	out := map[K]int{}
	for i, x := range l {
		out[key(x)] = i
	}
	return out
}
