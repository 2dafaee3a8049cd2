package tally

import (
	"fmt"
	"slices"
	"strings"
	"testing"

	"tallyman/api"
)

// told gives the lines of what is counted, and takes no moment for it.
func told(t *Tally) []string { return linesOf(Moment{t.families}) }

func linesOf(m Moment) []string {
	var lines []string
	for _, line := range m.Lines(Place{}) {
		lines = append(lines, line)
	}
	return lines
}

func wantTold(t *testing.T, counts *Tally, want ...string) {
	t.Helper()
	if lines := told(counts); !slices.Equal(lines, want) {
		t.Errorf("told\n\t%s\nwant\n\t%s", strings.Join(lines, "\n\t"), strings.Join(want, "\n\t"))
	}
}

func ok(t *testing.T, e api.Errno) {
	t.Helper()
	if e != api.OK {
		t.Errorf("refused: %d", e)
	}
}

func changes(t *testing.T, counts *Tally, text string, numbers ...int) {
	t.Helper()
	for _, n := range numbers {
		ok(t, counts.Change(text, n))
	}
}

func TestNothingIsCountedAtFirst(t *testing.T) {
	wantTold(t, &Tally{})
}

func TestFamiliesInOrder(t *testing.T) {
	counts := &Tally{}
	ok(t, counts.Family("wait", api.Histogram, []int{10, 20}))
	ok(t, counts.Family("a1", api.Counter, nil))
	ok(t, counts.Family("a", api.Gauge, []int{}))
	ok(t, counts.Family("_", api.Counter, nil))
	ok(t, counts.Family("a", api.Gauge, nil))
	wantTold(t, counts, "# _ counter", "# a gauge", "# a1 counter", "# wait histogram")
}

func TestSeriesInOrder(t *testing.T) {
	counts := &Tally{}
	ok(t, counts.Family("g", api.Gauge, nil))
	ok(t, counts.Family("f", api.Gauge, nil))
	for i, text := range []string{`g{b="1"}`, "g", `g{a="2"}`, `g{b="",a="2"}`, `g{a="10"}`, "f", `g{aa=""}`} {
		changes(t, counts, text, i)
	}
	wantTold(t, counts, "# f gauge", "f 5", "# g gauge", "g 1", `g{a="10"} 4`, `g{a="2",b=""} 3`, `g{a="2"} 2`, `g{aa=""} 6`, `g{b="1"} 0`)
}

func TestCounter(t *testing.T) {
	counts := &Tally{}
	ok(t, counts.Family("hits", api.Counter, nil))
	changes(t, counts, `hits{a="1"}`, 5, 2)
	changes(t, counts, "hits", 0)
	wantTold(t, counts, "# hits counter", "hits 0", `hits{a="1"} 7`)
	changes(t, counts, "hits", api.MaxNumber-1)
	changes(t, counts, `hits{a="1"}`, api.MaxNumber)
	wantTold(t, counts, "# hits counter", "hits 999999999", `hits{a="1"} 1000000000`)
	changes(t, counts, "hits", 1)
	wantTold(t, counts, "# hits counter", "hits 1000000000", `hits{a="1"} 1000000000`)
	changes(t, counts, "hits", 1, api.MaxNumber, 0)
	wantTold(t, counts, "# hits counter", "hits 1000000000", `hits{a="1"} 1000000000`)
}

func TestGauge(t *testing.T) {
	counts := &Tally{}
	ok(t, counts.Family("load", api.Gauge, nil))
	for _, n := range []int{5, 2, 0, -3, api.MaxNumber, -api.MaxNumber, -api.MaxNumber, 1} {
		changes(t, counts, "load", n)
		wantTold(t, counts, "# load gauge", fmt.Sprintf("load %d", n))
	}
}

func TestHistogram(t *testing.T) {
	counts := &Tally{}
	ok(t, counts.Family("wait", api.Histogram, []int{10, 20}))
	changes(t, counts, "wait", 5, 10, 25)
	wantTold(t, counts, "# wait histogram", "wait upto 10 2", "wait upto 20 2", "wait all 3 sum 40")
	changes(t, counts, "wait", 11, 20, 21, -100)
	wantTold(t, counts, "# wait histogram", "wait upto 10 3", "wait upto 20 5", "wait all 7 sum -8")
}

func TestHistogramLimits(t *testing.T) {
	for _, c := range []struct {
		n    int
		upto [4]int
	}{
		{-api.MaxNumber, [4]int{1, 1, 1, 1}}, {-api.MaxNumber + 1, [4]int{0, 1, 1, 1}},
		{-1, [4]int{0, 1, 1, 1}}, {0, [4]int{0, 1, 1, 1}}, {1, [4]int{0, 0, 1, 1}}, {2, [4]int{0, 0, 1, 1}}, {3, [4]int{0, 0, 0, 1}},
		{api.MaxNumber, [4]int{0, 0, 0, 1}},
	} {
		counts := &Tally{}
		ok(t, counts.Family("h", api.Histogram, []int{-api.MaxNumber, 0, 2, api.MaxNumber}))
		changes(t, counts, "h", c.n)
		wantTold(t, counts, "# h histogram",
			fmt.Sprint("h upto -1000000000 ", c.upto[0]), fmt.Sprint("h upto 0 ", c.upto[1]),
			fmt.Sprint("h upto 2 ", c.upto[2]), fmt.Sprint("h upto 1000000000 ", c.upto[3]),
			fmt.Sprint("h all 1 sum ", c.n))
	}
}

func TestHistogramSumStops(t *testing.T) {
	counts := &Tally{}
	ok(t, counts.Family("h", api.Histogram, []int{0}))
	changes(t, counts, "h", api.MaxNumber, 1, api.MaxNumber)
	wantTold(t, counts, "# h histogram", "h upto 0 0", "h all 3 sum 1000000000")
	changes(t, counts, "h", -1)
	wantTold(t, counts, "# h histogram", "h upto 0 1", "h all 4 sum 999999999")
	changes(t, counts, "h", -api.MaxNumber, -api.MaxNumber, -api.MaxNumber, -1)
	wantTold(t, counts, "# h histogram", "h upto 0 5", "h all 8 sum -1000000000")
	changes(t, counts, "h", 1)
	wantTold(t, counts, "# h histogram", "h upto 0 5", "h all 9 sum -999999999")
}

func TestDroppedSeriesComesAgainWithNothing(t *testing.T) {
	counts := &Tally{}
	ok(t, counts.Family("c", api.Counter, nil))
	ok(t, counts.Family("h", api.Histogram, []int{1, 2}))
	for _, text := range []string{"c", `c{a=""}`, "h", `h{a=""}`} {
		changes(t, counts, text, 1, 1)
	}
	ok(t, counts.Drop("c"))
	ok(t, counts.Drop(`h{a=""}`))
	wantTold(t, counts, "# c counter", `c{a=""} 2`, "# h histogram", "h upto 1 2", "h upto 2 2", "h all 2 sum 2")
	changes(t, counts, "c", 0)
	changes(t, counts, `h{a=""}`, 2)
	wantTold(t, counts, "# c counter", "c 0", `c{a=""} 2`, "# h histogram", "h upto 1 2", "h upto 2 2", "h all 2 sum 2", `h{a=""} upto 1 0`, `h{a=""} upto 2 1`, `h{a=""} all 1 sum 2`)
	for _, text := range []string{"c", `c{a=""}`, "h", `h{a=""}`} {
		ok(t, counts.Drop(text))
	}
	wantTold(t, counts, "# c counter", "# h histogram")
}

func TestSeriesUnderAnotherTextIsTheSame(t *testing.T) {
	counts := &Tally{}
	ok(t, counts.Family("c", api.Counter, nil))
	changes(t, counts, "c{b=\"\n\",a=\"\"}", 1)
	changes(t, counts, `c{a="",b="\n"}`, 2)
	changes(t, counts, `c{a="",b="\\n"}`, 4)
	wantTold(t, counts, "# c counter", `c{a="",b="\\n"} 4`, `c{a="",b="\n"} 3`)
}
