package tally

import (
	"fmt"
	"maps"
	"math"
	"math/rand/v2"
	"slices"
	"strings"
	"testing"

	"tallyman/api"
)

// model keeps every number that a series was changed by, and works out what is
// counted from them afresh each time.
type model map[string]*modelFamily

type modelFamily struct {
	kind   int
	limits []int
	series map[string][]int
}

// text is what a series' text is known to be.
type text struct {
	written, name, plain string
	refused              api.Errno
}

// textsOfModel are more series than there may be, of more families than there may be.
func textsOfModel() []text {
	texts := []text{
		{written: "", refused: api.ErrText},
		{written: "F0", refused: api.ErrText},
		{written: `f0{a="1",a="1"}`, refused: api.ErrLabel},
		{written: strings.Repeat("f", api.MaxText+1), refused: api.ErrLong},
		{written: "none", name: "none", plain: "none"},
	}
	for i := range api.MaxFamilies + 1 {
		name := fmt.Sprintf("f%d", i)
		texts = append(texts,
			text{written: name, name: name, plain: name},
			text{written: name + `{b="1",a="2"}`, name: name, plain: name + `{a="2",b="1"}`},
			text{written: name + `{a="2",b="1"}`, name: name, plain: name + `{a="2",b="1"}`},
			text{written: name + "{a=\"\n\"}", name: name, plain: name + `{a="\n"}`},
			text{written: name + `{a=""}`, name: name, plain: name + `{a=""}`})
	}
	return texts
}

func (m model) family(name string, kind int, limits []int) api.Errno {
	fits := kind == api.Counter && len(limits) == 0 || kind == api.Gauge && len(limits) == 0 ||
		kind == api.Histogram && len(limits) >= 1 && len(limits) <= 4
	for i, limit := range limits {
		fits = fits && limit >= -1e9 && limit <= 1e9 && (i == 0 || limit > limits[i-1])
	}
	f := m[name]
	switch {
	case name == "" || name == "9x":
		return api.ErrText
	case !fits:
		return api.ErrArg
	case f != nil && (f.kind != kind || !slices.Equal(f.limits, limits)):
		return api.ErrKind
	case f == nil && len(m) == 8:
		return api.ErrFull
	case f == nil:
		m[name] = &modelFamily{kind, limits, map[string][]int{}}
	}
	return api.OK
}

func (m model) change(s text, n int) api.Errno {
	f := m[s.name]
	all := 0
	for _, one := range m {
		all += len(one.series)
	}
	switch {
	case s.refused != api.OK:
		return s.refused
	case f == nil:
		return api.ErrName
	case n < -1e9 || n > 1e9 || f.kind == api.Counter && n < 0:
		return api.ErrArg
	case f.series[s.plain] == nil && all == 24:
		return api.ErrFull
	}
	f.series[s.plain] = append(f.series[s.plain], n)
	return api.OK
}

func (m model) drop(s text) api.Errno {
	switch {
	case s.refused != api.OK:
		return s.refused
	case m[s.name] == nil || m[s.name].series[s.plain] == nil:
		return api.ErrName
	}
	delete(m[s.name].series, s.plain)
	return api.OK
}

// told gives the lines of the families whose names are not below from.
func (m model) told(from string) []string {
	var lines []string
	for _, name := range slices.Sorted(maps.Keys(m)) {
		if name < from {
			continue
		}
		f := m[name]
		lines = append(lines, "# "+name+" "+[]string{"", "counter", "gauge", "histogram"}[f.kind])
		for _, plain := range slices.Sorted(maps.Keys(f.series)) {
			for _, numbers := range f.numbers(f.series[plain]) {
				lines = append(lines, plain+" "+numbers)
			}
		}
	}
	return lines
}

func (f *modelFamily) numbers(changes []int) []string {
	sum, upto := 0, make([]int, len(f.limits))
	for _, n := range changes {
		sum += n
		if sum > 1e9 {
			sum = 1e9
		}
		if sum < -1e9 {
			sum = -1e9
		}
		for i, limit := range f.limits {
			if n <= limit {
				upto[i]++
			}
		}
	}
	switch f.kind {
	case api.Gauge:
		return []string{fmt.Sprint(changes[len(changes)-1])}
	case api.Counter:
		return []string{fmt.Sprint(sum)}
	}
	var lines []string
	for i, limit := range f.limits {
		lines = append(lines, fmt.Sprintf("upto %d %d", limit, upto[i]))
	}
	return append(lines, fmt.Sprintf("all %d sum %d", len(changes), sum))
}

func oneOf[T any](r *rand.Rand, list []T) T { return list[r.IntN(len(list))] }

// taken is a moment, and the lines that it must have whatever comes later.
type taken struct {
	moment Moment
	lines  []string
}

func (m taken) wantLines(t *testing.T, behind string) {
	t.Helper()
	if lines := linesOf(m.moment); !slices.Equal(lines, m.lines) {
		t.Fatalf("behind %s: told\n%s\nwant\n%s", behind, strings.Join(lines, "\n"), strings.Join(m.lines, "\n"))
	}
}

func TestAgainstModel(t *testing.T) {
	r := rand.New(rand.NewPCG(1, 2))
	texts := textsOfModel()
	numbers := []int{0, 1, 2, 10, -1, -10, 5e8, -5e8, 1e9, -1e9, 1e9 + 1, -1e9 - 1, math.MaxInt, math.MinInt}
	names := []string{"", "9x", "f0", "f1", "f2", "f3", "f4", "f5", "f6", "f7", "f8"}
	limits := [][]int{nil, nil, nil, {0}, {1, 10}, {-1e9, 0, 1, 1e9}, {1, 1}, {1, 2, 3, 4, 5}, {0, 1e9 + 1}}
	met := map[string]int{}
	for range 100 {
		counts, m := &Tally{}, model{}
		var moments []taken
		for range 400 {
			var call string
			var e, want api.Errno
			switch act := r.IntN(20); {
			case act < 1:
				from := oneOf(r, []string{"", "", "a", "f0", "f3", "f3_", "f7", "g"})
				call = fmt.Sprintf("Moment(%q)", from)
				moments = append(moments, taken{counts.Moment(from), m.told(from)})
				moments = moments[max(0, len(moments)-4):]
			case act < 4:
				name, kind, l := oneOf(r, names), r.IntN(5), oneOf(r, limits)
				call, e, want = fmt.Sprintf("Family(%q, %d, %v)", name, kind, l), counts.Family(name, kind, l), m.family(name, kind, l)
			case act < 6:
				s := oneOf(r, texts)
				call, e, want = fmt.Sprintf("Drop(%q)", s.written), counts.Drop(s.written), m.drop(s)
			default:
				s, n := oneOf(r, texts), oneOf(r, numbers)
				call, e, want = fmt.Sprintf("Change(%q, %d)", s.written, n), counts.Change(s.written, n), m.change(s, n)
			}
			if e != want {
				t.Fatalf("%s = %d, want %d", call, e, want)
			}
			met[fmt.Sprintf("%.4s %d", call, e)]++
			taken{Moment{counts.families}, m.told("")}.wantLines(t, call)
			for _, earlier := range moments {
				earlier.wantLines(t, call)
			}
		}
	}
	for _, answer := range []string{"Fami 0", "Fami 2", "Fami 4", "Fami 5", "Fami 7", "Chan 0", "Chan 1", "Chan 2", "Chan 3", "Chan 4", "Chan 6", "Chan 7", "Drop 0", "Drop 1", "Drop 2", "Drop 3", "Drop 6"} {
		if met[answer] == 0 {
			t.Errorf("the answer %q was never met", answer)
		}
	}
}
