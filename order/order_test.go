package order

import (
	"slices"
	"testing"
)

type mark int

type pair struct {
	text   string
	number mark
}

func textOf(p pair) string { return p.text }

func numberOf(p pair) mark { return p.number }

func TestFindText(t *testing.T) {
	items := []pair{{text: "_"}, {text: "a"}, {text: "a1"}, {text: "c"}}
	for _, c := range []struct {
		wanted string
		at     int
		found  bool
	}{
		{"", 0, false}, {"_", 0, true}, {"a", 1, true}, {"a0", 2, false}, {"a1", 2, true}, {"b", 3, false}, {"c", 3, true}, {"d", 4, false},
	} {
		if at, found := Find(items, textOf, c.wanted); at != c.at || found != c.found {
			t.Errorf("Find %q = %d, %t, want %d, %t", c.wanted, at, found, c.at, c.found)
		}
	}
}

func TestFindNumber(t *testing.T) {
	items := []pair{{number: -5}, {number: 0}, {number: 10}}
	for _, c := range []struct {
		wanted mark
		at     int
		found  bool
	}{
		{-6, 0, false}, {-5, 0, true}, {-1, 1, false}, {0, 1, true}, {9, 2, false}, {10, 2, true}, {11, 3, false},
	} {
		if at, found := Find(items, numberOf, c.wanted); at != c.at || found != c.found {
			t.Errorf("Find %d = %d, %t, want %d, %t", c.wanted, at, found, c.at, c.found)
		}
	}
}

func TestFindInNothing(t *testing.T) {
	if at, found := Find(nil, textOf, "a"); at != 0 || found {
		t.Errorf("Find in nothing = %d, %t", at, found)
	}
}

func TestSorted(t *testing.T) {
	items := []pair{{"c", 1}, {"a", 3}, {"b", 2}}
	before := slices.Clone(items)
	byText, at := Sorted(items, textOf)
	if want := []pair{{"a", 3}, {"b", 2}, {"c", 1}}; !slices.Equal(byText, want) || at != 3 {
		t.Errorf("by text: %v, %d", byText, at)
	}
	byNumber, at := Sorted(items, numberOf)
	if want := []pair{{"c", 1}, {"b", 2}, {"a", 3}}; !slices.Equal(byNumber, want) || at != 3 {
		t.Errorf("by number: %v, %d", byNumber, at)
	}
	if !slices.Equal(items, before) {
		t.Errorf("the items were changed: %v", items)
	}
}

func TestSortedIsNewMemory(t *testing.T) {
	items := make([]pair, 1, 4)
	items[0] = pair{"a", 1}
	sorted, _ := Sorted(items, textOf)
	sorted[0].number = 9
	if items[0].number != 1 {
		t.Error("the sorted list shares memory with the items")
	}
}

func TestSortedTwice(t *testing.T) {
	for _, c := range []struct {
		texts []string
		at    int
	}{
		{[]string{"a", "a"}, 1}, {[]string{"c", "b", "c"}, 2}, {[]string{"c", "b", "b"}, 2}, {[]string{"c", "c", "c"}, 1}, {[]string{"d", "a", "c", "c", "a"}, 3},
	} {
		sorted, at := Sorted(c.texts, func(s string) string { return s })
		if sorted != nil || at != c.at {
			t.Errorf("Sorted %q = %q, %d, want %d", c.texts, sorted, at, c.at)
		}
	}
}

func TestSortedNothing(t *testing.T) {
	if sorted, at := Sorted(nil, textOf); len(sorted) != 0 || at != 0 {
		t.Errorf("Sorted of nothing = %v, %d", sorted, at)
	}
}
