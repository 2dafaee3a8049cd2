// Package order: sorting and looking up, written once for texts and for numbers.
package order

import (
	"cmp"
	"slices"
)

// Key is what things are ordered by: texts and numbers.
type Key interface {
	~string | ~int
}

// Find tells the place of the wanted key in items that are sorted by their keys,
// and whether it stands there; if it does not, the place is where it would have to.
func Find[T any, K Key](items []T, key func(T) K, wanted K) (int, bool) {
	return slices.BinarySearchFunc(items, wanted, func(item T, wanted K) int {
		return cmp.Compare(key(item), wanted)
	})
}

// Sorted gives a new list of the items in the order of their keys, and len(items);
// or, if a key stands twice, no list and the place of the first item whose key stood
// ahead of it already. It tells that place since the sorted list no longer shows it.
func Sorted[T any, K Key](items []T, key func(T) K) ([]T, int) {
	sorted := make([]T, 0, len(items))
	for i, item := range items {
		at, found := Find(sorted, key, key(item))
		if found {
			return nil, i
		}
		sorted = slices.Insert(sorted, at, item)
	}
	return sorted, len(items)
}
