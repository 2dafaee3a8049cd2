package tally

import (
	"iter"
	"slices"
	"strconv"

	"tallyman/api"
)

// Moment is what was counted when it was taken. It shares with the present all that has
// not been changed since.
type Moment struct {
	families []*family
}

// Place is where a line stands among the lines of its moment. The first one's is the
// zero Place.
type Place struct {
	family int
	series int // 0 for the line of the family itself, 1 for those of its first series
	line   int // of the series
}

// Lines goes through the lines of the moment (P8) from that place on, each with its own
// place: who leaves them at a line can go on there later.
func (m Moment) Lines(from Place) iter.Seq2[Place, string] {
	return func(yield func(Place, string) bool) {
		at := from
		for _, f := range m.families[at.family:] {
			if at.series == 0 {
				if !yield(at, f.title()) {
					return
				}
				at.series++
			}
			for c := range f.seriesFrom(at.series - 1) {
				for line := range f.linesFrom(c, at.line) {
					if !yield(at, line) {
						return
					}
					at.line++
				}
				at.series++
				at.line = 0
			}
			at = Place{family: at.family + 1}
		}
	}
}

// title writes the line of the family itself.
func (f *family) title() string { return "# " + f.name + " " + kindWord(f.kind) }

func kindWord(kind int) string {
	switch kind {
	case api.Counter:
		return "counter"
	case api.Gauge:
		return "gauge"
	}
	return "histogram"
}

// seriesFrom goes through the family's series from that place on.
func (f *family) seriesFrom(at int) iter.Seq[*counted] {
	return slices.Values(f.series[at:])
}

// linesFrom goes through the lines of one of the family's series from that one on: a line
// for each limit and a last one, which is the only one where there are no limits.
func (f *family) linesFrom(c *counted, from int) iter.Seq[string] {
	return func(yield func(string) bool) {
		for at := from; at < len(f.limits); at++ {
			if !yield(c.plain + " upto " + strconv.Itoa(f.limits[at]) + " " + strconv.Itoa(c.upto[at])) {
				return
			}
		}
		yield(f.lastLine(c))
	}
}

func (f *family) lastLine(c *counted) string {
	number := strconv.Itoa(c.number)
	if f.kind == api.Histogram {
		return c.plain + " all " + strconv.Itoa(c.all) + " sum " + number
	}
	return c.plain + " " + number
}
