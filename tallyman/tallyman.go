// Package tallyman: counts of many kinds, read as they were at one moment: see DOC.md.
package tallyman

import (
	"tallyman/api"
	"tallyman/reading"
	"tallyman/series"
	"tallyman/tally"
)

// Plain writes a series' text in order (P3, P4).
func Plain(text string) (string, api.Errno, int) {
	read, e, at := series.Read(text)
	if e != api.OK {
		return "", e, at
	}
	return read.Plain(), api.OK, 0
}

// Board keeps families of counts, and the readings of them.
type Board struct {
	present  tally.Tally
	readings reading.Readings
}

// New makes a board (P5).
func New() *Board { return &Board{} }

// Family makes a family (P6).
func (b *Board) Family(name string, kind int, limits []int) api.Errno {
	return b.present.Family(name, kind, limits)
}

// Change changes a series (P7).
func (b *Board) Change(series string, n int) api.Errno { return b.present.Change(series, n) }

// Drop takes a series away (P7).
func (b *Board) Drop(series string) api.Errno { return b.present.Drop(series) }

// Open begins a reading (P9).
func (b *Board) Open(from string) (int, api.Errno) { return b.readings.Open(&b.present, from) }

// Page tells a reading's next lines (P9).
func (b *Board) Page(reading int, most int) ([]string, bool, api.Errno) {
	return b.readings.Page(reading, most)
}

// Tick lets time go by (P9).
func (b *Board) Tick() { b.readings.Tick() }
