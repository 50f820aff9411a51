// Package lists makes lists of others.
package lists

// Transform returns the list of the results of f, element by element.
func Transform[T, U any](l []T, f func(T) U) []U {
	out := make([]U, 0, len(l))
	for _, x := range l {
		out = append(out, f(x))
	}
	return out
}

// Grouped returns the lists of the elements with the same key. The groups, and the elements of each one, stay in order.
func Grouped[T any, K comparable](l []T, key func(T) K) [][]T {
	index := map[K]int{}
	var out [][]T
	for _, x := range l {
		k := key(x)
		i, ok := index[k]
		if !ok {
			i = len(out)
			index[k] = i
			out = append(out, nil)
		}
		out[i] = append(out[i], x)
	}
	return out
}

// Distinct returns the elements of a list, each one once, in the order of their first places.
func Distinct[T comparable](l []T) []T {
	known := map[T]bool{}
	var out []T
	for _, x := range l {
		if !known[x] {
			known[x] = true
			out = append(out, x)
		}
	}
	return out
}
