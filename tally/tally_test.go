package tally

import (
	"fmt"
	"slices"
	"strings"
	"testing"

	"tallyman/api"
)

// told writes all that is counted: each family and, behind it, its series with their
// numbers, of a Histogram the count of each limit, the count of all and the sum.
func told(t *Tally) []string {
	var lines []string
	for _, f := range t.families {
		lines = append(lines, strings.TrimSpace(fmt.Sprintln("#", f.name, f.kind, f.limits)))
		for _, c := range f.series {
			if f.kind == api.Histogram {
				lines = append(lines, fmt.Sprint(c.plain, " ", c.upto[:len(f.limits)], " ", c.all, " ", c.number))
			} else {
				lines = append(lines, fmt.Sprint(c.plain, " ", c.number))
			}
		}
	}
	return lines
}

func wantTold(t *testing.T, counts *Tally, want ...string) {
	t.Helper()
	if lines := told(counts); !slices.Equal(lines, want) {
		t.Errorf("told\n\t%s\nwant\n\t%s", strings.Join(lines, "\n\t"), strings.Join(want, "\n\t"))
	}
}

func ok(t *testing.T, e api.Errno) {
	t.Helper()
	if e != api.OK {
		t.Errorf("refused: %d", e)
	}
}

func changes(t *testing.T, counts *Tally, text string, numbers ...int) {
	t.Helper()
	for _, n := range numbers {
		ok(t, counts.Change(text, n))
	}
}

func TestNothingIsCountedAtFirst(t *testing.T) {
	wantTold(t, &Tally{})
}

func TestFamiliesInOrder(t *testing.T) {
	counts := &Tally{}
	ok(t, counts.Family("wait", api.Histogram, []int{10, 20}))
	ok(t, counts.Family("a1", api.Counter, nil))
	ok(t, counts.Family("a", api.Gauge, []int{}))
	ok(t, counts.Family("_", api.Counter, nil))
	ok(t, counts.Family("a", api.Gauge, nil))
	wantTold(t, counts, "# _ 1 []", "# a 2 []", "# a1 1 []", "# wait 3 [10 20]")
}

func TestSeriesInOrder(t *testing.T) {
	counts := &Tally{}
	ok(t, counts.Family("g", api.Gauge, nil))
	ok(t, counts.Family("f", api.Gauge, nil))
	for i, text := range []string{`g{b="1"}`, "g", `g{a="2"}`, `g{b="",a="2"}`, `g{a="10"}`, "f", `g{aa=""}`} {
		changes(t, counts, text, i)
	}
	wantTold(t, counts, "# f 2 []", "f 5", "# g 2 []", "g 1", `g{a="10"} 4`, `g{a="2",b=""} 3`, `g{a="2"} 2`, `g{aa=""} 6`, `g{b="1"} 0`)
}

func TestCounter(t *testing.T) {
	counts := &Tally{}
	ok(t, counts.Family("hits", api.Counter, nil))
	changes(t, counts, `hits{a="1"}`, 5, 2)
	changes(t, counts, "hits", 0)
	wantTold(t, counts, "# hits 1 []", "hits 0", `hits{a="1"} 7`)
	changes(t, counts, "hits", api.MaxNumber-1)
	changes(t, counts, `hits{a="1"}`, api.MaxNumber)
	wantTold(t, counts, "# hits 1 []", "hits 999999999", `hits{a="1"} 1000000000`)
	changes(t, counts, "hits", 1)
	wantTold(t, counts, "# hits 1 []", "hits 1000000000", `hits{a="1"} 1000000000`)
	changes(t, counts, "hits", 1, api.MaxNumber, 0)
	wantTold(t, counts, "# hits 1 []", "hits 1000000000", `hits{a="1"} 1000000000`)
}

func TestGauge(t *testing.T) {
	counts := &Tally{}
	ok(t, counts.Family("load", api.Gauge, nil))
	for _, n := range []int{5, 2, 0, -3, api.MaxNumber, -api.MaxNumber, -api.MaxNumber, 1} {
		changes(t, counts, "load", n)
		wantTold(t, counts, "# load 2 []", fmt.Sprintf("load %d", n))
	}
}

func TestHistogram(t *testing.T) {
	counts := &Tally{}
	ok(t, counts.Family("wait", api.Histogram, []int{10, 20}))
	changes(t, counts, "wait", 5, 10, 25)
	wantTold(t, counts, "# wait 3 [10 20]", "wait [2 2] 3 40")
	changes(t, counts, "wait", 11, 20, 21, -100)
	wantTold(t, counts, "# wait 3 [10 20]", "wait [3 5] 7 -8")
}

func TestHistogramLimits(t *testing.T) {
	for _, c := range []struct {
		n    int
		want string
	}{
		{-api.MaxNumber, "[1 1 1 1] 1 -1000000000"}, {-api.MaxNumber + 1, "[0 1 1 1] 1 -999999999"},
		{-1, "[0 1 1 1] 1 -1"}, {0, "[0 1 1 1] 1 0"}, {1, "[0 0 1 1] 1 1"}, {2, "[0 0 1 1] 1 2"}, {3, "[0 0 0 1] 1 3"},
		{api.MaxNumber, "[0 0 0 1] 1 1000000000"},
	} {
		counts := &Tally{}
		ok(t, counts.Family("h", api.Histogram, []int{-api.MaxNumber, 0, 2, api.MaxNumber}))
		changes(t, counts, "h", c.n)
		wantTold(t, counts, "# h 3 [-1000000000 0 2 1000000000]", "h "+c.want)
	}
}

func TestHistogramSumStops(t *testing.T) {
	counts := &Tally{}
	ok(t, counts.Family("h", api.Histogram, []int{0}))
	changes(t, counts, "h", api.MaxNumber, 1, api.MaxNumber)
	wantTold(t, counts, "# h 3 [0]", "h [0] 3 1000000000")
	changes(t, counts, "h", -1)
	wantTold(t, counts, "# h 3 [0]", "h [1] 4 999999999")
	changes(t, counts, "h", -api.MaxNumber, -api.MaxNumber, -api.MaxNumber, -1)
	wantTold(t, counts, "# h 3 [0]", "h [5] 8 -1000000000")
	changes(t, counts, "h", 1)
	wantTold(t, counts, "# h 3 [0]", "h [5] 9 -999999999")
}

func TestDroppedSeriesComesAgainWithNothing(t *testing.T) {
	counts := &Tally{}
	ok(t, counts.Family("c", api.Counter, nil))
	ok(t, counts.Family("h", api.Histogram, []int{1, 2}))
	for _, text := range []string{"c", `c{a=""}`, "h", `h{a=""}`} {
		changes(t, counts, text, 1, 1)
	}
	ok(t, counts.Drop("c"))
	ok(t, counts.Drop(`h{a=""}`))
	wantTold(t, counts, "# c 1 []", `c{a=""} 2`, "# h 3 [1 2]", "h [2 2] 2 2")
	changes(t, counts, "c", 0)
	changes(t, counts, `h{a=""}`, 2)
	wantTold(t, counts, "# c 1 []", "c 0", `c{a=""} 2`, "# h 3 [1 2]", "h [2 2] 2 2", `h{a=""} [0 1] 1 2`)
	for _, text := range []string{"c", `c{a=""}`, "h", `h{a=""}`} {
		ok(t, counts.Drop(text))
	}
	wantTold(t, counts, "# c 1 []", "# h 3 [1 2]")
}

func TestSeriesUnderAnotherTextIsTheSame(t *testing.T) {
	counts := &Tally{}
	ok(t, counts.Family("c", api.Counter, nil))
	changes(t, counts, "c{b=\"\n\",a=\"\"}", 1)
	changes(t, counts, `c{a="",b="\n"}`, 2)
	changes(t, counts, `c{a="",b="\\n"}`, 4)
	wantTold(t, counts, "# c 1 []", `c{a="",b="\\n"} 4`, `c{a="",b="\n"} 3`)
}
