package order

import (
	"slices"
	"testing"
)

type mark int

type pair struct {
	text   string
	number mark
}

func textOf(p pair) string { return p.text }

func numberOf(p pair) mark { return p.number }

func TestFindText(t *testing.T) {
	items := []pair{{text: "_"}, {text: "a"}, {text: "a1"}, {text: "c"}}
	for _, c := range []struct {
		wanted string
		at     int
		found  bool
	}{
		{"", 0, false}, {"_", 0, true}, {"a", 1, true}, {"a0", 2, false}, {"a1", 2, true}, {"b", 3, false}, {"c", 3, true}, {"d", 4, false},
	} {
		if at, found := Find(items, textOf, c.wanted); at != c.at || found != c.found {
			t.Errorf("Find %q = %d, %t, want %d, %t", c.wanted, at, found, c.at, c.found)
		}
	}
}

func TestFindNumber(t *testing.T) {
	items := []pair{{number: -5}, {number: 0}, {number: 10}}
	for _, c := range []struct {
		wanted mark
		at     int
		found  bool
	}{
		{-6, 0, false}, {-5, 0, true}, {-1, 1, false}, {0, 1, true}, {9, 2, false}, {10, 2, true}, {11, 3, false},
	} {
		if at, found := Find(items, numberOf, c.wanted); at != c.at || found != c.found {
			t.Errorf("Find %d = %d, %t, want %d, %t", c.wanted, at, found, c.at, c.found)
		}
	}
}

func TestFindInNothing(t *testing.T) {
	if at, found := Find(nil, textOf, "a"); at != 0 || found {
		t.Errorf("Find in nothing = %d, %t", at, found)
	}
}

func TestSorted(t *testing.T) {
	items := []pair{{"c", 1}, {"a", 3}, {"b", 2}}
	before := slices.Clone(items)
	byText, at := Sorted(items, textOf)
	if want := []pair{{"a", 3}, {"b", 2}, {"c", 1}}; !slices.Equal(byText, want) || at != 3 {
		t.Errorf("by text: %v, %d", byText, at)
	}
	byNumber, at := Sorted(items, numberOf)
	if want := []pair{{"c", 1}, {"b", 2}, {"a", 3}}; !slices.Equal(byNumber, want) || at != 3 {
		t.Errorf("by number: %v, %d", byNumber, at)
	}
	if !slices.Equal(items, before) {
		t.Errorf("the items were changed: %v", items)
	}
}

func TestSortedIsNewMemory(t *testing.T) {
	items := make([]pair, 1, 4)
	items[0] = pair{"a", 1}
	sorted, _ := Sorted(items, textOf)
	sorted[0].number = 9
	if items[0].number != 1 {
		t.Error("the sorted list shares memory with the items")
	}
}

func TestSortedTwice(t *testing.T) {
	for _, c := range []struct {
		texts []string
		at    int
	}{
		{[]string{"a", "a"}, 1}, {[]string{"c", "b", "c"}, 2}, {[]string{"c", "b", "b"}, 2}, {[]string{"c", "c", "c"}, 1}, {[]string{"d", "a", "c", "c", "a"}, 3},
	} {
		sorted, at := Sorted(c.texts, func(s string) string { return s })
		if sorted != nil || at != c.at {
			t.Errorf("Sorted %q = %q, %d, want %d", c.texts, sorted, at, c.at)
		}
	}
}

func TestSortedNothing(t *testing.T) {
	if sorted, at := Sorted(nil, textOf); len(sorted) != 0 || at != 0 {
		t.Errorf("Sorted of nothing = %v, %d", sorted, at)
	}
}

func TestTogetherByText(t *testing.T) {
	for _, c := range []struct {
		first, second, want []pair
	}{
		{nil, nil, nil},
		{nil, []pair{{"a", 2}}, []pair{{"a", 2}}},
		{[]pair{{"a", 1}}, nil, []pair{{"a", 1}}},
		{[]pair{{"a", 1}, {"c", 1}}, []pair{{"b", 2}}, []pair{{"a", 1}, {"b", 2}, {"c", 1}}},
		{[]pair{{"b", 1}, {"c", 1}}, []pair{{"a", 2}, {"d", 2}, {"e", 2}}, []pair{{"a", 2}, {"b", 1}, {"c", 1}, {"d", 2}, {"e", 2}}},
		{[]pair{{"a", 1}, {"b", 1}, {"c", 1}}, []pair{{"b", 2}, {"c", 2}}, []pair{{"a", 1}, {"b", 2}, {"c", 2}}},
		{[]pair{{"a", 1}}, []pair{{"a", 2}, {"a1", 2}}, []pair{{"a", 2}, {"a1", 2}}},
	} {
		if together := Together(c.first, c.second, textOf); !slices.Equal(together, c.want) {
			t.Errorf("Together of %v and %v = %v, want %v", c.first, c.second, together, c.want)
		}
	}
}

func TestTogetherByNumber(t *testing.T) {
	first, second := []int{-10, 3, 9}, []int{-9, 3, 10}
	together := Together(first, second, Itself[int])
	if want := []int{-10, -9, 3, 9, 10}; !slices.Equal(together, want) {
		t.Errorf("%v, want %v", together, want)
	}
}

func TestTogetherIsNewMemory(t *testing.T) {
	first := append(make([]int, 0, 4), 1, 3)
	second := append(make([]int, 0, 4), 2)
	for _, lists := range [][2][]int{{first, second}, {first, nil}, {nil, second}, {first, {0}}, {first, {4}}} {
		together := Together(lists[0], lists[1], Itself[int])
		for i := range together[:cap(together)] {
			together[:cap(together)][i] = 99
		}
	}
	if !slices.Equal(first[:4], []int{1, 3, 0, 0}) || !slices.Equal(second[:4], []int{2, 0, 0, 0}) {
		t.Errorf("what was laid together was changed: %v, %v", first[:4], second[:4])
	}
}
