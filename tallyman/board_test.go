package tallyman_test

import (
	"fmt"
	"math"
	"reflect"
	"slices"
	"testing"
	"unsafe"

	"tallyman/api"
	"tallyman/tallyman"
)

func family(t *testing.T, b *tallyman.Board, want api.Errno, name string, kind int, limits ...int) {
	t.Helper()
	if e := b.Family(name, kind, limits); e != want {
		t.Errorf("P6: Family(%.40q, %d, %v) = %d, want %d", name, kind, limits, e, want)
	}
}

func change(t *testing.T, b *tallyman.Board, want api.Errno, series string, n int) {
	t.Helper()
	if e := b.Change(series, n); e != want {
		t.Errorf("P7: Change(%.120q, %d) = %d, want %d", series, n, e, want)
	}
}

func drop(t *testing.T, b *tallyman.Board, want api.Errno, series string) {
	t.Helper()
	if e := b.Drop(series); e != want {
		t.Errorf("P7: Drop(%.120q) = %d, want %d", series, e, want)
	}
}

// threeKinds gives a board with a family of each kind, each with a series.
func threeKinds(t *testing.T) *tallyman.Board {
	t.Helper()
	b := tallyman.New()
	family(t, b, api.OK, "hits", api.Counter)
	family(t, b, api.OK, "load", api.Gauge)
	family(t, b, api.OK, "wait", api.Histogram, 10, 20)
	for _, name := range []string{"hits", "load", "wait"} {
		change(t, b, api.OK, name+`{a="1"}`, 7)
	}
	return b
}

// fullBoard gives a board with all families and series that it may have: f0 to f7,
// Gauges, each with the series {n="0"}, {n="1"} and {n="2"}.
func fullBoard(t *testing.T) *tallyman.Board {
	t.Helper()
	b := tallyman.New()
	for i := range api.MaxFamilies {
		family(t, b, api.OK, fmt.Sprintf("f%d", i), api.Gauge)
	}
	for i := range api.MaxSeries {
		change(t, b, api.OK, fmt.Sprintf(`f%d{n="%d"}`, i%api.MaxFamilies, i/api.MaxFamilies), i)
	}
	return b
}

func TestNew(t *testing.T) {
	b := tallyman.New()
	if b == nil {
		t.Fatal("P5: New gives none")
	}
	change(t, b, api.ErrName, "hits", 1)
	drop(t, b, api.ErrName, "hits")
	for i := range api.MaxFamilies {
		family(t, b, api.OK, fmt.Sprintf("f%d", i), api.Counter)
	}
}

func TestBoardsAreApart(t *testing.T) {
	full, other := fullBoard(t), tallyman.New()
	change(t, other, api.ErrName, "f0", 1)
	family(t, other, api.OK, "f0", api.Counter)
	change(t, other, api.OK, "f0", 1)
	drop(t, other, api.ErrName, `f0{n="0"}`)
	change(t, full, api.ErrFull, "f0", 1)
	family(t, full, api.OK, "f0", api.Gauge)
	third := tallyman.New()
	change(t, third, api.ErrName, "f0", 1)
}

func TestExamplesOfDocument(t *testing.T) {
	b := tallyman.New()
	family(t, b, api.OK, "hits", api.Counter)
	family(t, b, api.OK, "hits", api.Counter)
	family(t, b, api.ErrKind, "hits", api.Gauge)
	family(t, b, api.ErrText, "9x", api.Counter)
	family(t, b, api.ErrArg, "h", api.Histogram, 10, 5)
	change(t, b, api.OK, `hits{a="1"}`, 5)
	change(t, b, api.OK, `hits{a="1"}`, 2)
	change(t, b, api.ErrArg, "hits", -1)
	change(t, b, api.ErrName, "none", 1)
}

func TestFamilyRefusesNames(t *testing.T) {
	b := tallyman.New()
	for _, name := range []string{"", "9x", "Hits", " a", "a ", "a-b", "a{}", `a{b="1"}`, "a\x00", "\xff", "é", "a\n", longName + "m", string(make([]byte, 1<<16))} {
		family(t, b, api.ErrText, name, api.Counter)
		family(t, b, api.ErrText, name, 0)
		family(t, b, api.ErrText, name, api.Histogram)
		family(t, b, api.ErrText, name, api.Gauge, 1)
	}
	for _, name := range []string{"a", "_", "z9", "_0", "a_", longName} {
		family(t, b, api.OK, name, api.Counter)
		change(t, b, api.OK, name, 1)
	}
}

func TestFamilyRefusesKinds(t *testing.T) {
	b := tallyman.New()
	for _, kind := range []int{0, -1, 4, math.MaxInt, math.MinInt} {
		family(t, b, api.ErrArg, "a", kind)
		family(t, b, api.ErrArg, "a", kind, 1)
	}
	change(t, b, api.ErrName, "a", 1)
}

func TestFamilyRefusesLimits(t *testing.T) {
	b := tallyman.New()
	for _, kind := range []int{api.Counter, api.Gauge} {
		family(t, b, api.ErrArg, "a", kind, 1)
		family(t, b, api.ErrArg, "a", kind, 1, 2)
	}
	for _, limits := range [][]int{
		nil, {}, {1, 1}, {2, 1}, {1, 3, 2}, {1, 2, 4, 3}, {2, 1, 3, 4}, {1, 2, 2, 3}, {1, 2, 1}, {1, 2, 3, 4, 5},
		{api.MaxNumber + 1}, {-api.MaxNumber - 1}, {0, api.MaxNumber + 1}, {-api.MaxNumber - 1, 0},
		{math.MaxInt}, {math.MinInt}, {math.MinInt, math.MaxInt}, {0, math.MinInt}, {math.MaxInt, 0},
		{1, 2, 3, 4, 5, 6, 7, 8, 9}, make([]int, 1<<16),
	} {
		if e := b.Family("a", api.Histogram, limits); e != api.ErrArg {
			t.Errorf("P6: limits %.40v: %d, want ErrArg", limits, e)
		}
	}
	change(t, b, api.ErrName, "a", 1)
}

func TestFamilyTakesLimits(t *testing.T) {
	b := tallyman.New()
	for i, limits := range [][]int{
		{0}, {-1}, {api.MaxNumber}, {-api.MaxNumber}, {-api.MaxNumber, api.MaxNumber}, {1, 2, 3, 4},
		{-api.MaxNumber, -api.MaxNumber + 1, api.MaxNumber - 1, api.MaxNumber},
	} {
		family(t, b, api.OK, fmt.Sprintf("h%d", i), api.Histogram, limits...)
		family(t, b, api.OK, fmt.Sprintf("h%d", i), api.Histogram, limits...)
	}
	if e := b.Family("c", api.Counter, []int{}); e != api.OK {
		t.Errorf("P6: a Counter with an empty list: %d", e)
	}
	family(t, b, api.OK, "c", api.Counter)
}

func TestFamilyOfAnotherKind(t *testing.T) {
	b := threeKinds(t)
	family(t, b, api.OK, "hits", api.Counter)
	family(t, b, api.OK, "load", api.Gauge)
	family(t, b, api.OK, "wait", api.Histogram, 10, 20)
	family(t, b, api.ErrKind, "hits", api.Gauge)
	family(t, b, api.ErrKind, "hits", api.Histogram, 10, 20)
	family(t, b, api.ErrKind, "load", api.Counter)
	family(t, b, api.ErrKind, "wait", api.Counter)
	family(t, b, api.ErrKind, "wait", api.Gauge)
	for _, limits := range [][]int{{10}, {20}, {10, 21}, {9, 20}, {10, 20, 30}, {0, 10, 20}} {
		family(t, b, api.ErrKind, "wait", api.Histogram, limits...)
	}
	// What may not be comes ahead of what is of another kind.
	family(t, b, api.ErrArg, "wait", api.Histogram, 20, 10)
	family(t, b, api.ErrArg, "wait", api.Histogram)
	family(t, b, api.ErrArg, "wait", api.Counter, 10, 20)
	family(t, b, api.ErrArg, "hits", 4)
}

func TestFamilyFull(t *testing.T) {
	b := fullBoard(t)
	family(t, b, api.ErrFull, "x", api.Counter)
	family(t, b, api.ErrFull, "a", api.Histogram, 1)
	family(t, b, api.ErrArg, "x", 4)
	family(t, b, api.ErrText, "X", api.Counter)
	family(t, b, api.OK, "f0", api.Gauge)
	family(t, b, api.OK, "f7", api.Gauge)
	family(t, b, api.ErrKind, "f7", api.Counter)
	change(t, b, api.ErrName, "x", 1)
}

func TestChangeRefusesTexts(t *testing.T) {
	b := threeKinds(t)
	for _, text := range []string{"", "Hits", "hits{}", `hits{a="1`, `hits{a="\t"}`, "hits ", longName + "m", "\xff"} {
		change(t, b, api.ErrText, text, 1)
		change(t, b, api.ErrText, text, math.MaxInt)
		drop(t, b, api.ErrText, text)
	}
	for _, text := range []string{`hits{a="1",a="1"}`, `none{a="1",b="",a="2"}`} {
		change(t, b, api.ErrLabel, text, 1)
		change(t, b, api.ErrLabel, text, math.MinInt)
		drop(t, b, api.ErrLabel, text)
	}
	for _, text := range []string{"a" + textOf100(), string(make([]byte, 1<<16))} {
		change(t, b, api.ErrLong, text, 1)
		change(t, b, api.ErrLong, text, math.MaxInt)
		drop(t, b, api.ErrLong, text)
	}
}

func TestChangeRefusesNamesOfNoFamily(t *testing.T) {
	b := threeKinds(t)
	for _, text := range []string{"none", `none{a="1"}`, "hit", "hits_", `hit{s="1"}`, "a", "z"} {
		change(t, b, api.ErrName, text, 1)
		change(t, b, api.ErrName, text, math.MaxInt)
		drop(t, b, api.ErrName, text)
	}
}

func TestChangeRefusesNumbers(t *testing.T) {
	b := threeKinds(t)
	for _, text := range []string{"hits", "load", "wait", `hits{a="1"}`, `load{a="1"}`, `wait{a="1"}`} {
		for _, n := range []int{api.MaxNumber + 1, -api.MaxNumber - 1, math.MaxInt, math.MinInt} {
			change(t, b, api.ErrArg, text, n)
		}
	}
	for _, n := range []int{-1, -api.MaxNumber} {
		change(t, b, api.ErrArg, "hits", n)
		change(t, b, api.ErrArg, `hits{a="1"}`, n)
	}
	for _, name := range []string{"hits", "load", "wait"} {
		drop(t, b, api.ErrName, name)
	}
	for _, n := range []int{0, 1, api.MaxNumber} {
		change(t, b, api.OK, "hits", n)
	}
	for _, n := range []int{0, -1, api.MaxNumber, -api.MaxNumber} {
		change(t, b, api.OK, "load", n)
		change(t, b, api.OK, "wait", n)
	}
}

func TestChangeFull(t *testing.T) {
	b := fullBoard(t)
	change(t, b, api.ErrFull, "f0", 1)
	change(t, b, api.ErrFull, `f7{n="3"}`, 1)
	change(t, b, api.ErrArg, "f0", math.MaxInt)
	change(t, b, api.ErrName, "none", 1)
	change(t, b, api.OK, `f0{n="0"}`, 1)
	drop(t, b, api.ErrName, "f0")
	drop(t, b, api.OK, `f3{n="1"}`)
	change(t, b, api.OK, "f0", 1)
	change(t, b, api.ErrFull, `f3{n="1"}`, 1)
	drop(t, b, api.OK, "f0")
	change(t, b, api.OK, `f3{n="1"}`, 1)
	change(t, b, api.ErrFull, "f0", 1)
}

func TestOneFamilyMayHaveAllSeries(t *testing.T) {
	b := threeKinds(t)
	for _, name := range []string{"hits", "load", "wait"} {
		drop(t, b, api.OK, name+`{a="1"}`)
	}
	for i := range api.MaxSeries {
		change(t, b, api.OK, fmt.Sprintf(`wait{n="%d"}`, i), i)
	}
	for _, name := range []string{"hits", "load", "wait"} {
		change(t, b, api.ErrFull, name, 1)
	}
	change(t, b, api.ErrArg, "hits", -1)
}

func TestDrop(t *testing.T) {
	b := threeKinds(t)
	drop(t, b, api.ErrName, "hits")
	drop(t, b, api.ErrName, `hits{a="2"}`)
	drop(t, b, api.ErrName, `hits{b="1"}`)
	drop(t, b, api.OK, `hits{a="1"}`)
	drop(t, b, api.ErrName, `hits{a="1"}`)
	drop(t, b, api.OK, `load{a="1"}`)
	drop(t, b, api.OK, `wait{a="1"}`)
	// The family stays, of its kind.
	family(t, b, api.ErrKind, "hits", api.Gauge)
	change(t, b, api.ErrArg, "hits", -1)
	change(t, b, api.OK, `hits{a="1"}`, 1)
	drop(t, b, api.OK, `hits{a="1"}`)
}

func TestSeriesUnderAnotherText(t *testing.T) {
	b := threeKinds(t)
	change(t, b, api.OK, "hits{y=\"\n\",x=\"1\"}", 1)
	drop(t, b, api.OK, `hits{x="1",y="\n"}`)
	drop(t, b, api.ErrName, "hits{y=\"\n\",x=\"1\"}")
	change(t, b, api.OK, `hits{x="1",y="\\n"}`, 1)
	drop(t, b, api.ErrName, `hits{x="1",y="\n"}`)
}

func TestErrorsChangeNothing(t *testing.T) {
	before, b := fullBoard(t), fullBoard(t)
	family(t, b, api.ErrText, "9x", api.Counter)
	family(t, b, api.ErrArg, "x", api.Counter, 1)
	family(t, b, api.ErrArg, "f0", api.Histogram, 2, 1)
	family(t, b, api.ErrKind, "f0", api.Counter)
	family(t, b, api.ErrKind, "f0", api.Histogram, 1)
	family(t, b, api.ErrFull, "x", api.Counter)
	family(t, b, api.OK, "f0", api.Gauge)
	change(t, b, api.ErrLong, "a"+textOf100(), 1)
	change(t, b, api.ErrText, "F0", 1)
	change(t, b, api.ErrLabel, `f0{n="0",n="0"}`, 1)
	change(t, b, api.ErrName, "x", 1)
	change(t, b, api.ErrArg, `f0{n="0"}`, api.MaxNumber+1)
	change(t, b, api.ErrFull, "f0", 1)
	drop(t, b, api.ErrText, "F0")
	drop(t, b, api.ErrName, "f0")
	if !reflect.DeepEqual(b, before) {
		t.Error("P1: an error, or a family made again, has changed the board")
	}
	change(t, b, api.OK, `f0{n="0"}`, 1)
	if reflect.DeepEqual(b, before) {
		t.Error("two boards are held for equal that are not")
	}
}

func TestRefusedSeriesIsNotMade(t *testing.T) {
	before, b := threeKinds(t), threeKinds(t)
	change(t, b, api.ErrArg, "hits", -1)
	change(t, b, api.ErrArg, `hits{a="1"}`, -1)
	change(t, b, api.ErrArg, "load", math.MinInt)
	change(t, b, api.ErrArg, "wait", math.MaxInt)
	change(t, b, api.ErrArg, `wait{a="1"}`, math.MaxInt)
	if !reflect.DeepEqual(b, before) {
		t.Error("P1: an error has changed the board")
	}
}

func TestLimitsAreTheCallers(t *testing.T) {
	b := tallyman.New()
	limits := []int{1, 5, 77, 78}
	family(t, b, api.OK, "w", api.Histogram, limits[:2]...)
	if e := b.Family("v", api.Histogram, limits[:2]); e != api.OK {
		t.Fatalf("P6: %d", e)
	}
	if !slices.Equal(limits, []int{1, 5, 77, 78}) {
		t.Errorf("P2: the limits or their spare room were written into: %v", limits)
	}
	copy(limits, []int{3, 9})
	family(t, b, api.OK, "v", api.Histogram, 1, 5)
	family(t, b, api.ErrKind, "v", api.Histogram, 3, 9)
	refused := []int{9, 1, 5}
	family(t, b, api.ErrArg, "u", api.Histogram, refused...)
	if !slices.Equal(refused, []int{9, 1, 5}) {
		t.Errorf("P2: refused limits were written into: %v", refused)
	}
}

func TestTextsAreTheCallers(t *testing.T) {
	b := tallyman.New()
	bytes := []byte("hits")
	family(t, b, api.OK, unsafe.String(&bytes[0], 4), api.Counter)
	copy(bytes, "zzzz")
	family(t, b, api.ErrKind, "hits", api.Gauge)
	for _, text := range []string{"hits", `hits{a="1"}`} {
		bytes := []byte(text)
		change(t, b, api.OK, unsafe.String(&bytes[0], len(bytes)), 1)
		if string(bytes) != text {
			t.Errorf("P2: the text %q was written into", text)
		}
		clear(bytes)
		drop(t, b, api.OK, text)
	}
}
