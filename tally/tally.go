// Package tally: what is counted: the families, their series and the series' numbers;
// and the lines of a moment of it.
package tally

import (
	"slices"

	"tallyman/api"
	"tallyman/order"
	"tallyman/series"
)

// Tally keeps the families in the order of their names. A new one has none.
//
// Its parts are the list of families, the families and their series. Each knows the age
// at which it was made; a part of an earlier age than the tally's may be shared with a
// moment, and is copied ahead of its next change. A part of this age is changed in place.
type Tally struct {
	age      int // how many moments were taken
	listAge  int
	families []*family
}

// Moment gives what is counted now, of the families whose names are not below from.
func (t *Tally) Moment(from string) Moment {
	t.age++
	at, _ := order.Find(t.families, nameOf, from)
	return Moment{families: t.families[at:]}
}

// Family makes a family, if there is none of that name yet (P6).
func (t *Tally) Family(name string, kind int, limits []int) api.Errno {
	if !series.IsName(name) {
		return api.ErrText
	}
	if !limitsFit(kind, limits) {
		return api.ErrArg
	}
	if f := t.family(name); f != nil {
		return f.remade(kind, limits)
	}
	if len(t.families) >= api.MaxFamilies {
		return api.ErrFull
	}
	made := []*family{newFamily(t.age, name, kind, limits)}
	t.families, t.listAge = order.Together(t.families, made, nameOf), t.age
	return api.OK
}

// Change changes a series, and makes it first, if it is not there (P7).
func (t *Tally) Change(text string, n int) api.Errno {
	read, e, _ := series.Read(text)
	if e != api.OK {
		return e
	}
	f := t.family(read.Name())
	if f == nil {
		return api.ErrName
	}
	if !f.takes(n) {
		return api.ErrArg
	}
	plain := read.Plain()
	at, found := f.find(plain)
	if !found && t.full() {
		return api.ErrFull
	}
	f = t.own(f)
	if !found {
		f.add(plain)
	}
	f.count(f.own(at), n)
	return api.OK
}

// Drop takes a series away (P7).
func (t *Tally) Drop(text string) api.Errno {
	read, e, _ := series.Read(text)
	if e != api.OK {
		return e
	}
	f := t.family(read.Name())
	if f == nil {
		return api.ErrName
	}
	at, found := f.find(read.Plain())
	if !found {
		return api.ErrName
	}
	t.own(f).remove(at)
	return api.OK
}

// family gives the family of that name, or nil.
func (t *Tally) family(name string) *family {
	at, found := order.Find(t.families, nameOf, name)
	if !found {
		return nil
	}
	return t.families[at]
}

// own gives a family to who changes it: the family itself, or a copy that stands in its
// place from now on.
func (t *Tally) own(f *family) *family {
	if f.age == t.age {
		return f
	}
	if t.listAge < t.age {
		t.families, t.listAge = slices.Clone(t.families), t.age
	}
	at, _ := order.Find(t.families, nameOf, f.name)
	t.families[at] = f.copied(t.age)
	return t.families[at]
}

// full tells whether all families together have as many series as they may.
func (t *Tally) full() bool {
	all := 0
	for _, f := range t.families {
		all += len(f.series)
	}
	return all >= api.MaxSeries
}
