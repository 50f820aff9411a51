// Package lists makes lists of others.
package lists

// Transform returns the list of the results of f, element by element.
func Transform[T, U any](l []T, f func(T) U) []U {
	out := make([]U, 0, len(l))
	for _, x := range l {
		out = append(out, f(x))
	}
	return out
}
