package tally

import (
	"slices"
	"strings"

	"tallyman/api"
	"tallyman/order"
)

// family keeps its series in the order of their plain forms.
type family struct {
	age    int
	name   string
	kind   int
	limits []int // of a Histogram alone
	series []*counted
}

func nameOf(f *family) string { return f.name }

// newFamily copies what it keeps: it is the caller's, who may change it later.
func newFamily(age int, name string, kind int, limits []int) *family {
	return &family{age: age, name: strings.Clone(name), kind: kind, limits: slices.Clone(limits)}
}

// copied gives a family of that age with a list of its own, of the same series. The
// limits stay shared, since they are never changed.
func (f *family) copied(age int) *family {
	made := *f
	made.age = age
	made.series = slices.Clone(f.series)
	return &made
}

// own gives the series at that place to who changes it: the series itself, or a copy
// that stands in its place from now on. The family is of the tally's age already.
func (f *family) own(at int) *counted {
	if f.series[at].age < f.age {
		f.series[at] = f.series[at].copied(f.age)
	}
	return f.series[at]
}

// limitsFit tells whether there are families of that kind with these limits.
func limitsFit(kind int, limits []int) bool {
	switch kind {
	case api.Counter, api.Gauge:
		return len(limits) == 0
	case api.Histogram:
		return 1 <= len(limits) && len(limits) <= api.MaxLimits && rise(limits) &&
			inBounds(limits[0]) && inBounds(limits[len(limits)-1])
	}
	return false
}

// rise tells whether each number is greater than the one ahead of it: sorting, which
// refuses what stands twice, then leaves them as they are.
func rise(numbers []int) bool {
	sorted, _ := order.Sorted(numbers, order.Itself[int])
	return slices.Equal(sorted, numbers)
}

// remade is the answer to who makes the family again.
func (f *family) remade(kind int, limits []int) api.Errno {
	if kind != f.kind || !slices.Equal(limits, f.limits) {
		return api.ErrKind
	}
	return api.OK
}

// find tells the place of a series, and whether it is there.
func (f *family) find(plain string) (int, bool) {
	return order.Find(f.series, plainOf, plain)
}

// add makes a series with 0 for everything; it keeps the plain form as it is.
func (f *family) add(plain string) {
	made := []*counted{{age: f.age, plain: plain}}
	f.series = order.Together(f.series, made, plainOf)
}

func (f *family) remove(at int) {
	f.series = slices.Delete(f.series, at, at+1)
}

// takes tells whether a series of the family can be changed by n.
func (f *family) takes(n int) bool {
	return inBounds(n) && (f.kind != api.Counter || n >= 0)
}

// count changes one of the family's series by n.
func (f *family) count(c *counted, n int) {
	switch f.kind {
	case api.Counter:
		c.number = stopped(c.number + n)
	case api.Gauge:
		c.number = n
	case api.Histogram:
		c.all++
		c.number = stopped(c.number + n)
		reached, _ := order.Find(f.limits, order.Itself[int], n)
		for i := reached; i < len(f.limits); i++ {
			c.upto[i]++
		}
	}
}
