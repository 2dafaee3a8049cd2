package tallyman_test

import (
	"fmt"
	"math/rand/v2"
	"slices"
	"strings"
	"testing"

	"tallyman/api"
	"tallyman/tallyman"
)

// modelBoard remembers every call that counts, and of each reading the lines that are
// still to be told, as a new board tells them on which the same calls were made.
type modelBoard struct {
	calls    []func(*tallyman.Board) api.Errno
	time     int
	readings map[int]*modelReading
}

type modelReading struct {
	rest []string
	last int // the time at which it was opened, or of its last page
}

func (m *modelBoard) open(t *testing.T, from string) (int, api.Errno) {
	if from == "9" || from == "F" {
		return 0, api.ErrText
	}
	if len(m.readings) == 3 {
		return 0, api.ErrFull
	}
	number := 0
	for m.readings[number] != nil {
		number++
	}
	b := tallyman.New()
	for _, call := range m.calls {
		call(b)
	}
	m.readings[number] = &modelReading{familiesFrom(linesFrom(t, b, ""), from), m.time}
	return number, api.OK
}

// familiesFrom leaves out the lines of the families whose names are below from.
func familiesFrom(lines []string, from string) []string {
	for i, line := range lines {
		if words := strings.Fields(line); words[0] == "#" && words[1] >= from {
			return lines[i:]
		}
	}
	return nil
}

func (m *modelBoard) page(number, most int) ([]string, bool, api.Errno) {
	reading := m.readings[number]
	if reading == nil {
		return nil, false, api.ErrRead
	}
	if most < 1 || most > 20 {
		return nil, false, api.ErrArg
	}
	most = min(most, len(reading.rest))
	lines := reading.rest[:most]
	reading.rest, reading.last = reading.rest[most:], m.time
	if len(reading.rest) == 0 {
		delete(m.readings, number)
		return lines, false, api.OK
	}
	return lines, true, api.OK
}

func (m *modelBoard) tick() {
	m.time++
	for number, reading := range m.readings {
		if m.time-reading.last == 5 {
			delete(m.readings, number)
		}
	}
}

func randomCount(r *rand.Rand) func(*tallyman.Board) api.Errno {
	name := fmt.Sprintf("f%d", r.IntN(api.MaxFamilies+1))
	series := name + []string{"", `{a="1"}`, `{a="2"}`, `{b="2",a="1"}`, "{a=\"\n\"}", "{}"}[r.IntN(6)]
	kind, n := 1+r.IntN(3), []int{0, 1, 5, 10, 11, -3, api.MaxNumber, -api.MaxNumber, api.MaxNumber + 1}[r.IntN(9)]
	switch r.IntN(8) {
	case 0, 1:
		return func(b *tallyman.Board) api.Errno {
			return b.Family(name, kind, [][]int{1: nil, 2: nil, 3: {0, 10}}[kind])
		}
	case 2:
		return func(b *tallyman.Board) api.Errno { return b.Drop(series) }
	}
	return func(b *tallyman.Board) api.Errno { return b.Change(series, n) }
}

func TestReadingsAgainstModel(t *testing.T) {
	r := rand.New(rand.NewPCG(3, 4))
	met := map[string]int{}
	for range 100 {
		b, m := tallyman.New(), &modelBoard{readings: map[int]*modelReading{}}
		for range 400 {
			switch act := r.IntN(20); {
			case act < 9:
				call := randomCount(r)
				call(b)
				m.calls = append(m.calls, call)
			case act < 12:
				from := []string{"", "", "f0", "f3", "f35", "f7", "z", "9", "F"}[r.IntN(9)]
				number, e := b.Open(from)
				wantNumber, want := m.open(t, from)
				met[fmt.Sprint("open ", want)]++
				if number != wantNumber || e != want {
					t.Fatalf("P9: Open(%q) = %d, %d, want %d, %d", from, number, e, wantNumber, want)
				}
			case act < 18:
				number, most := r.IntN(5)-1, []int{-1, 0, 1, 1, 2, 2, 3, 5, 8, 20, 21}[r.IntN(11)]
				lines, more, e := b.Page(number, most)
				wantLines, wantMore, want := m.page(number, most)
				met[fmt.Sprint("page ", want, " ", wantMore)]++
				if !slices.Equal(lines, wantLines) || more != wantMore || e != want {
					t.Fatalf("P9: Page(%d, %d) = %q, %t, %d, want %q, %t, %d", number, most, lines, more, e, wantLines, wantMore, want)
				}
			default:
				before := len(m.readings)
				b.Tick()
				m.tick()
				met[fmt.Sprint("over ", before-len(m.readings))]++
			}
		}
	}
	for _, answer := range []string{"open 0", "open 2", "open 7", "page 0 true", "page 0 false", "page 4 false", "page 8 false", "over 0", "over 1", "over 2"} {
		if met[answer] == 0 {
			t.Errorf("the answer %q was never met", answer)
		}
	}
}
