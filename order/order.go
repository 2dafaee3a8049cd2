// Package order: sorting, looking up and laying together, written once for texts and
// for numbers.
package order

import (
	"cmp"
	"slices"
)

// Key is what things are ordered by: texts and numbers.
type Key interface {
	~string | ~int
}

// Find tells the place of the wanted key in items that are sorted by their keys,
// and whether it stands there; if it does not, the place is where it would have to.
func Find[T any, K Key](items []T, key func(T) K, wanted K) (int, bool) {
	return slices.BinarySearchFunc(items, wanted, func(item T, wanted K) int {
		return cmp.Compare(key(item), wanted)
	})
}

// Sorted gives a new list of the items in the order of their keys, and len(items);
// or, if a key stands twice, no list and the place of the first item whose key stood
// ahead of it already. It tells that place since the sorted list no longer shows it.
func Sorted[T any, K Key](items []T, key func(T) K) ([]T, int) {
	sorted := []T{}
	for i, item := range items {
		if _, found := Find(sorted, key, key(item)); found {
			return nil, i
		}
		sorted = Together(sorted, items[i:i+1], key)
	}
	return sorted, len(items)
}

// Together lays two lists, each sorted by its keys, together into a new sorted list.
// Where a key stands in both, the item of the second takes the place of the first's.
func Together[T any, K Key](first, second []T, key func(T) K) []T {
	together := make([]T, 0, len(first)+len(second))
	for _, item := range second {
		at, found := Find(first, key, key(item))
		together = append(append(together, first[:at]...), item)
		if found {
			at++
		}
		first = first[at:]
	}
	return append(together, first...)
}

// Itself is the key of what is ordered by itself.
func Itself[K Key](item K) K { return item }
