package clause

import (
	"slices"

	"elenchus/api"
)

// multi compares two lists as multisets, by a comparison of their elements.
func multi[T any](a, b []T, same func(T, T) bool, compare func(T, T) int) int {
	a, b = without(a, b, same), without(b, a, same)
	switch {
	case len(a) == 0 && len(b) == 0:
		return api.Equal
	case exceed(a, b, compare):
		return api.More
	case exceed(b, a, compare):
		return api.Less
	}
	return api.None
}

// without is what remains of a list when each element of another one takes away one that is the same.
func without[T any](list, others []T, same func(T, T) bool) []T {
	rest := slices.Clone(list)
	for _, other := range others {
		i := slices.IndexFunc(rest, func(t T) bool { return same(t, other) })
		if i >= 0 {
			rest = slices.Delete(rest, i, i+1)
		}
	}
	return rest
}

// exceed reports whether each of the low elements is less than some of the high ones.
func exceed[T any](high, low []T, compare func(T, T) int) bool {
	for _, l := range low {
		if !slices.ContainsFunc(high, func(h T) bool { return compare(h, l) == api.More }) {
			return false
		}
	}
	return true
}
