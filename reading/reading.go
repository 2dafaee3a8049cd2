// Package reading: the readings of what is counted, each of the lines of one moment, told
// page by page.
package reading

import (
	"slices"

	"tallyman/api"
	"tallyman/series"
	"tallyman/tally"
)

// Readings keeps the readings that are not over, each at the place of its number. At first
// there are none.
type Readings struct {
	open [api.MaxReadings]*reading
}

// reading is a moment, and where its lines go on.
type reading struct {
	moment tally.Moment
	next   tally.Place
	idle   int // ticks since it was opened, or since a page of it was told
}

// Open begins a reading of what is counted now (P9).
func (r *Readings) Open(counts *tally.Tally, from string) (int, api.Errno) {
	if from != "" && !series.IsName(from) {
		return 0, api.ErrText
	}
	free := slices.Index(r.open[:], nil)
	if free < 0 {
		return 0, api.ErrFull
	}
	r.open[free] = &reading{moment: counts.Moment(from)}
	return free, api.OK
}

// Page tells the next lines of a reading, which is over behind the last of them (P9).
func (r *Readings) Page(number, most int) ([]string, bool, api.Errno) {
	if number < 0 || number >= len(r.open) || r.open[number] == nil {
		return nil, false, api.ErrRead
	}
	if most < 1 || most > api.MaxPage {
		return nil, false, api.ErrArg
	}
	lines, more := r.open[number].page(most)
	if !more {
		r.open[number] = nil
	}
	return lines, more, api.OK
}

// Tick ends the readings that have been idle for too long (P9). How long that is each
// reading counts for itself, so that no time of the whole has to be kept.
func (r *Readings) Tick() {
	for number, one := range r.open {
		if one == nil {
			continue
		}
		one.idle++
		if one.idle == api.MaxIdle {
			r.open[number] = nil
		}
	}
}

// page gives the next lines, and whether there are more. It goes one line beyond the page,
// since the next one begins there, if it is there.
func (r *reading) page(most int) ([]string, bool) {
	r.idle = 0
	lines := make([]string, 0, most)
	for at, line := range r.moment.Lines(r.next) {
		if len(lines) == most {
			r.next = at
			return lines, true
		}
		lines = append(lines, line)
	}
	return lines, false
}
