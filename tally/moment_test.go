package tally

import (
	"slices"
	"testing"

	"tallyman/api"
)

// twoFamilies gives a Counter c with three series and a Histogram h with two.
func twoFamilies(t *testing.T) *Tally {
	t.Helper()
	counts := &Tally{}
	ok(t, counts.Family("c", api.Counter, nil))
	ok(t, counts.Family("h", api.Histogram, []int{1, 2}))
	for _, text := range []string{"c", `c{a="1"}`, `c{a="2"}`, "h", `h{a="1"}`} {
		changes(t, counts, text, 1)
	}
	return counts
}

func linesOfTwoFamilies() []string {
	return []string{
		"# c counter", "c 1", `c{a="1"} 1`, `c{a="2"} 1`,
		"# h histogram", "h upto 1 1", "h upto 2 1", "h all 1 sum 1",
		`h{a="1"} upto 1 1`, `h{a="1"} upto 2 1`, `h{a="1"} all 1 sum 1`,
	}
}

func TestLinesGoOnFromEachPlace(t *testing.T) {
	m := twoFamilies(t).Moment("")
	all := linesOfTwoFamilies()
	told := 0
	for at := range m.Lines(Place{}) {
		var rest []string
		for _, line := range m.Lines(at) {
			rest = append(rest, line)
		}
		if !slices.Equal(rest, all[told:]) {
			t.Errorf("from %v on: %q, want %q", at, rest, all[told:])
		}
		told++
	}
	if told != len(all) {
		t.Errorf("%d places, want %d", told, len(all))
	}
}

func TestLinesAreLeftAtEachPlace(t *testing.T) {
	m := twoFamilies(t).Moment("")
	all := linesOfTwoFamilies()
	lines := m.Lines(Place{})
	for enough := 1; enough <= len(all); enough++ {
		var told []string
		for _, line := range lines {
			told = append(told, line)
			if len(told) == enough {
				break
			}
		}
		if !slices.Equal(told, all[:enough]) {
			t.Errorf("the first %d: %q, want %q", enough, told, all[:enough])
		}
	}
}

func TestLinesOfNoFamilies(t *testing.T) {
	for at, line := range (&Tally{}).Moment("").Lines(Place{}) {
		t.Errorf("the line %q at %v", line, at)
	}
}

func TestMomentFrom(t *testing.T) {
	counts := twoFamilies(t)
	all := linesOfTwoFamilies()
	for _, c := range []struct {
		from string
		want []string
	}{
		{"", all}, {"a", all}, {"c", all}, {"c0", all[4:]}, {"d", all[4:]}, {"h", all[4:]}, {"h_", nil}, {"z", nil},
	} {
		if lines := linesOf(counts.Moment(c.from)); !slices.Equal(lines, c.want) {
			t.Errorf("from %q: %q, want %q", c.from, lines, c.want)
		}
	}
}

// shared tells which families, by their names, and which series, by their plain forms,
// are the same things in memory.
func shared(first, second Moment) []string {
	parts := func(m Moment) map[any]string {
		named := map[any]string{}
		for _, f := range m.families {
			named[f] = "# " + f.name
			for _, c := range f.series {
				named[c] = c.plain
			}
		}
		return named
	}
	var both []string
	others := parts(second)
	for part, name := range parts(first) {
		if others[part] != "" {
			both = append(both, name)
		}
	}
	slices.Sort(both)
	return both
}

func wantShared(t *testing.T, first, second Moment, want ...string) {
	t.Helper()
	slices.Sort(want)
	if both := shared(first, second); !slices.Equal(both, want) {
		t.Errorf("shared are %q, want %q", both, want)
	}
}

func TestMomentsWithNothingChangedShareAll(t *testing.T) {
	counts := twoFamilies(t)
	first := counts.Moment("")
	ok(t, counts.Family("c", api.Counter, nil))
	for _, e := range []api.Errno{
		counts.Family("c", api.Gauge, nil), counts.Family("x", api.Gauge, []int{1}),
		counts.Change("c", -1), counts.Change(`c{a="3"}`, -1), counts.Change("x", 1), counts.Change("h{}", 1),
		counts.Drop(`c{a="3"}`), counts.Drop("x"), counts.Drop("h{}"),
	} {
		if e == api.OK {
			t.Error("not refused")
		}
	}
	second := counts.Moment("")
	if &first.families[0] != &second.families[0] || &first.families[0] != &counts.families[0] {
		t.Error("the list of families was copied")
	}
	wantShared(t, first, second, "# c", "c", `c{a="1"}`, `c{a="2"}`, "# h", "h", `h{a="1"}`)
}

func TestOnlyWhatIsChangedIsCopied(t *testing.T) {
	counts := twoFamilies(t)
	m := counts.Moment("")
	present := func() Moment { return Moment{counts.families} }
	changes(t, counts, `c{a="1"}`, 1)
	wantShared(t, m, present(), "c", `c{a="2"}`, "# h", "h", `h{a="1"}`)
	changes(t, counts, "h", 1)
	wantShared(t, m, present(), "c", `c{a="2"}`, `h{a="1"}`)
	changes(t, counts, `c{a="0"}`, 1)
	ok(t, counts.Family("g", api.Gauge, nil))
	wantShared(t, m, present(), "c", `c{a="2"}`, `h{a="1"}`)
	ok(t, counts.Drop("c"))
	wantShared(t, m, present(), `c{a="2"}`, `h{a="1"}`)
	if lines := linesOf(m); !slices.Equal(lines, linesOfTwoFamilies()) {
		t.Errorf("the moment has become %q", lines)
	}
	wantTold(t, counts, "# c counter", `c{a="0"} 1`, `c{a="1"} 2`, `c{a="2"} 1`, "# g gauge",
		"# h histogram", "h upto 1 2", "h upto 2 2", "h all 2 sum 2",
		`h{a="1"} upto 1 1`, `h{a="1"} upto 2 1`, `h{a="1"} all 1 sum 1`)
}

func TestNewFamilyCopiesNoOther(t *testing.T) {
	counts := twoFamilies(t)
	m := counts.Moment("")
	ok(t, counts.Family("d", api.Gauge, nil))
	wantShared(t, m, Moment{counts.families}, "# c", "c", `c{a="1"}`, `c{a="2"}`, "# h", "h", `h{a="1"}`)
	if len(m.families) != 2 {
		t.Errorf("the moment has %d families", len(m.families))
	}
}

func TestWhatIsCopiedOnceIsChangedInPlace(t *testing.T) {
	counts := twoFamilies(t)
	counts.Moment("")
	changes(t, counts, `c{a="1"}`, 1)
	list, c, one := &counts.families[0], counts.families[0], counts.families[0].series[1]
	changes(t, counts, `c{a="1"}`, 1)
	changes(t, counts, "c", 1)
	ok(t, counts.Drop(`c{a="2"}`))
	changes(t, counts, "h", 1)
	if &counts.families[0] != list {
		t.Error("the list of families was copied again")
	}
	if counts.families[0] != c {
		t.Error("the family was copied again")
	}
	if c.series[1] != one {
		t.Error("the series was copied again")
	}
}

func TestWhatIsMadeBehindAMomentIsChangedInPlace(t *testing.T) {
	counts := twoFamilies(t)
	counts.Moment("")
	ok(t, counts.Family("a", api.Gauge, nil))
	list, a := &counts.families[0], counts.families[0]
	changes(t, counts, "a", 1)
	one := a.series[0]
	changes(t, counts, "a", 2)
	changes(t, counts, "c", 1)
	if &counts.families[0] != list || counts.families[0] != a || a.series[0] != one {
		t.Error("the new list, family or series was copied")
	}
}

func TestMomentOfSomeFamiliesOutlastsChangesOfOthers(t *testing.T) {
	counts := twoFamilies(t)
	m := counts.Moment("h")
	changes(t, counts, "c", 1)
	changes(t, counts, "h", 1)
	ok(t, counts.Drop(`h{a="1"}`))
	ok(t, counts.Family("i", api.Gauge, nil))
	ok(t, counts.Family("b", api.Gauge, nil))
	if lines := linesOf(m); !slices.Equal(lines, linesOfTwoFamilies()[4:]) {
		t.Errorf("the moment has become %q", lines)
	}
}
