package tally

import (
	"fmt"
	"maps"
	"math"
	"math/rand/v2"
	"slices"
	"strings"
	"testing"

	"tallyman/api"
)

// model keeps every number that a series was changed by, and works out what is
// counted from them afresh each time.
type model map[string]*modelFamily

type modelFamily struct {
	kind   int
	limits []int
	series map[string][]int
}

// text is what a series' text is known to be.
type text struct {
	written, name, plain string
	refused              api.Errno
}

// textsOfModel are more series than there may be, of more families than there may be.
func textsOfModel() []text {
	texts := []text{
		{written: "", refused: api.ErrText},
		{written: "F0", refused: api.ErrText},
		{written: `f0{a="1",a="1"}`, refused: api.ErrLabel},
		{written: strings.Repeat("f", api.MaxText+1), refused: api.ErrLong},
		{written: "none", name: "none", plain: "none"},
	}
	for i := range api.MaxFamilies + 1 {
		name := fmt.Sprintf("f%d", i)
		texts = append(texts,
			text{written: name, name: name, plain: name},
			text{written: name + `{b="1",a="2"}`, name: name, plain: name + `{a="2",b="1"}`},
			text{written: name + `{a="2",b="1"}`, name: name, plain: name + `{a="2",b="1"}`},
			text{written: name + "{a=\"\n\"}", name: name, plain: name + `{a="\n"}`},
			text{written: name + `{a=""}`, name: name, plain: name + `{a=""}`})
	}
	return texts
}

func (m model) family(name string, kind int, limits []int) api.Errno {
	fits := kind == api.Counter && len(limits) == 0 || kind == api.Gauge && len(limits) == 0 ||
		kind == api.Histogram && len(limits) >= 1 && len(limits) <= 4
	for i, limit := range limits {
		fits = fits && limit >= -1e9 && limit <= 1e9 && (i == 0 || limit > limits[i-1])
	}
	f := m[name]
	switch {
	case name == "" || name == "9x":
		return api.ErrText
	case !fits:
		return api.ErrArg
	case f != nil && (f.kind != kind || !slices.Equal(f.limits, limits)):
		return api.ErrKind
	case f == nil && len(m) == 8:
		return api.ErrFull
	case f == nil:
		m[name] = &modelFamily{kind, limits, map[string][]int{}}
	}
	return api.OK
}

func (m model) change(s text, n int) api.Errno {
	f := m[s.name]
	all := 0
	for _, one := range m {
		all += len(one.series)
	}
	switch {
	case s.refused != api.OK:
		return s.refused
	case f == nil:
		return api.ErrName
	case n < -1e9 || n > 1e9 || f.kind == api.Counter && n < 0:
		return api.ErrArg
	case f.series[s.plain] == nil && all == 24:
		return api.ErrFull
	}
	f.series[s.plain] = append(f.series[s.plain], n)
	return api.OK
}

func (m model) drop(s text) api.Errno {
	switch {
	case s.refused != api.OK:
		return s.refused
	case m[s.name] == nil || m[s.name].series[s.plain] == nil:
		return api.ErrName
	}
	delete(m[s.name].series, s.plain)
	return api.OK
}

func (m model) told() []string {
	var lines []string
	for _, name := range slices.Sorted(maps.Keys(m)) {
		f := m[name]
		lines = append(lines, fmt.Sprintf("# %s %d %v", name, f.kind, f.limits))
		for _, plain := range slices.Sorted(maps.Keys(f.series)) {
			lines = append(lines, plain+" "+f.numbers(f.series[plain]))
		}
	}
	return lines
}

func (f *modelFamily) numbers(changes []int) string {
	sum, upto := 0, make([]int, len(f.limits))
	for _, n := range changes {
		sum += n
		if sum > 1e9 {
			sum = 1e9
		}
		if sum < -1e9 {
			sum = -1e9
		}
		for i, limit := range f.limits {
			if n <= limit {
				upto[i]++
			}
		}
	}
	switch f.kind {
	case api.Gauge:
		return fmt.Sprint(changes[len(changes)-1])
	case api.Counter:
		return fmt.Sprint(sum)
	}
	return fmt.Sprint(upto, " ", len(changes), " ", sum)
}

func oneOf[T any](r *rand.Rand, list []T) T { return list[r.IntN(len(list))] }

func TestAgainstModel(t *testing.T) {
	r := rand.New(rand.NewPCG(1, 2))
	texts := textsOfModel()
	numbers := []int{0, 1, 2, 10, -1, -10, 5e8, -5e8, 1e9, -1e9, 1e9 + 1, -1e9 - 1, math.MaxInt, math.MinInt}
	names := []string{"", "9x", "f0", "f1", "f2", "f3", "f4", "f5", "f6", "f7", "f8"}
	limits := [][]int{nil, nil, nil, {0}, {1, 10}, {-1e9, 0, 1, 1e9}, {1, 1}, {1, 2, 3, 4, 5}, {0, 1e9 + 1}}
	met := map[string]int{}
	for range 200 {
		counts, m := &Tally{}, model{}
		for step := range 400 {
			var call string
			var e, want api.Errno
			switch act := r.IntN(20); {
			case act < 3:
				name, kind, l := oneOf(r, names), r.IntN(5), oneOf(r, limits)
				call, e, want = fmt.Sprintf("Family(%q, %d, %v)", name, kind, l), counts.Family(name, kind, l), m.family(name, kind, l)
			case act < 5:
				s := oneOf(r, texts)
				call, e, want = fmt.Sprintf("Drop(%q)", s.written), counts.Drop(s.written), m.drop(s)
			default:
				s, n := oneOf(r, texts), oneOf(r, numbers)
				call, e, want = fmt.Sprintf("Change(%q, %d)", s.written, n), counts.Change(s.written, n), m.change(s, n)
			}
			if e != want {
				t.Fatalf("step %d: %s = %d, want %d", step, call, e, want)
			}
			met[fmt.Sprintf("%.4s %d", call, e)]++
			if lines := told(counts); !slices.Equal(lines, m.told()) {
				t.Fatalf("step %d, behind %s: told\n%s\nwant\n%s", step, call, strings.Join(lines, "\n"), strings.Join(m.told(), "\n"))
			}
		}
	}
	for _, answer := range []string{"Fami 0", "Fami 2", "Fami 4", "Fami 5", "Fami 7", "Chan 0", "Chan 1", "Chan 2", "Chan 3", "Chan 4", "Chan 6", "Chan 7", "Drop 0", "Drop 1", "Drop 2", "Drop 3", "Drop 6"} {
		if met[answer] == 0 {
			t.Errorf("the answer %q was never met", answer)
		}
	}
}
