package tally

import (
	"slices"
	"strings"

	"tallyman/api"
	"tallyman/order"
)

// family keeps its series in the order of their plain forms.
type family struct {
	name   string
	kind   int
	limits []int // of a Histogram alone
	series []*counted
}

func nameOf(f *family) string { return f.name }

// newFamily copies what it keeps: it is the caller's, who may change it later.
func newFamily(name string, kind int, limits []int) *family {
	return &family{name: strings.Clone(name), kind: kind, limits: slices.Clone(limits)}
}

// limitsFit tells whether there are families of that kind with these limits.
func limitsFit(kind int, limits []int) bool {
	switch kind {
	case api.Counter, api.Gauge:
		return len(limits) == 0
	case api.Histogram:
		return 1 <= len(limits) && len(limits) <= api.MaxLimits && rise(limits) &&
			inBounds(limits[0]) && inBounds(limits[len(limits)-1])
	}
	return false
}

// rise tells whether each number is greater than the one ahead of it: sorting, which
// refuses what stands twice, then leaves them as they are.
func rise(numbers []int) bool {
	sorted, _ := order.Sorted(numbers, order.Itself[int])
	return slices.Equal(sorted, numbers)
}

// remade is the answer to who makes the family again.
func (f *family) remade(kind int, limits []int) api.Errno {
	if kind != f.kind || !slices.Equal(limits, f.limits) {
		return api.ErrKind
	}
	return api.OK
}

// find tells the place of a series, and whether it is there.
func (f *family) find(plain string) (int, bool) {
	return order.Find(f.series, plainOf, plain)
}

// add makes a series with 0 for everything; it keeps the plain form as it is.
func (f *family) add(plain string) {
	f.series = order.Together(f.series, []*counted{{plain: plain}}, plainOf)
}

func (f *family) remove(at int) {
	f.series = slices.Delete(f.series, at, at+1)
}

// takes tells whether a series of the family can be changed by n.
func (f *family) takes(n int) bool {
	return inBounds(n) && (f.kind != api.Counter || n >= 0)
}

// count changes one of the family's series by n.
func (f *family) count(c *counted, n int) {
	switch f.kind {
	case api.Counter:
		c.number = stopped(c.number + n)
	case api.Gauge:
		c.number = n
	case api.Histogram:
		c.all++
		c.number = stopped(c.number + n)
		reached, _ := order.Find(f.limits, order.Itself[int], n)
		for i := reached; i < len(f.limits); i++ {
			c.upto[i]++
		}
	}
}
