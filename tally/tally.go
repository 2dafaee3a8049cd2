// Package tally: what is counted: the families, their series and the series' numbers.
package tally

import (
	"tallyman/api"
	"tallyman/order"
	"tallyman/series"
)

// Tally keeps the families in the order of their names. A new one has none.
type Tally struct {
	families []*family
}

// Family makes a family, if there is none of that name yet (P6).
func (t *Tally) Family(name string, kind int, limits []int) api.Errno {
	if !series.IsName(name) {
		return api.ErrText
	}
	if !limitsFit(kind, limits) {
		return api.ErrArg
	}
	if f := t.family(name); f != nil {
		return f.remade(kind, limits)
	}
	if len(t.families) >= api.MaxFamilies {
		return api.ErrFull
	}
	made := []*family{newFamily(name, kind, limits)}
	t.families = order.Together(t.families, made, nameOf)
	return api.OK
}

// Change changes a series, and makes it first, if it is not there (P7).
func (t *Tally) Change(text string, n int) api.Errno {
	read, e, _ := series.Read(text)
	if e != api.OK {
		return e
	}
	f := t.family(read.Name())
	if f == nil {
		return api.ErrName
	}
	if !f.takes(n) {
		return api.ErrArg
	}
	plain := read.Plain()
	at, found := f.find(plain)
	if !found {
		if t.full() {
			return api.ErrFull
		}
		f.add(plain)
	}
	f.count(f.series[at], n)
	return api.OK
}

// Drop takes a series away (P7).
func (t *Tally) Drop(text string) api.Errno {
	read, e, _ := series.Read(text)
	if e != api.OK {
		return e
	}
	f := t.family(read.Name())
	if f == nil {
		return api.ErrName
	}
	at, found := f.find(read.Plain())
	if !found {
		return api.ErrName
	}
	f.remove(at)
	return api.OK
}

// family gives the family of that name, or nil.
func (t *Tally) family(name string) *family {
	at, found := order.Find(t.families, nameOf, name)
	if !found {
		return nil
	}
	return t.families[at]
}

// full tells whether all families together have as many series as they may.
func (t *Tally) full() bool {
	all := 0
	for _, f := range t.families {
		all += len(f.series)
	}
	return all >= api.MaxSeries
}
