package tallyman_test

import (
	"fmt"
	"math"
	"reflect"
	"slices"
	"testing"
	"unsafe"

	"tallyman/api"
	"tallyman/tallyman"
)

func open(t *testing.T, b *tallyman.Board, from string, want int) {
	t.Helper()
	if number, e := b.Open(from); number != want || e != api.OK {
		t.Fatalf("P9: Open(%q) = %d, %d, want %d, OK", from, number, e, want)
	}
}

func openRefused(t *testing.T, b *tallyman.Board, from string, want api.Errno) {
	t.Helper()
	if number, e := b.Open(from); number != 0 || e != want {
		t.Errorf("P9: Open(%.40q) = %d, %d, want 0, %d", from, number, e, want)
	}
}

func page(t *testing.T, b *tallyman.Board, number, most int, more bool, want ...string) {
	t.Helper()
	lines, behind, e := b.Page(number, most)
	if !slices.Equal(lines, want) || behind != more || e != api.OK {
		t.Fatalf("P9: Page(%d, %d) = %q, %t, %d, want %q, %t, OK", number, most, lines, behind, e, want, more)
	}
}

func pageRefused(t *testing.T, b *tallyman.Board, number, most int, want api.Errno) {
	t.Helper()
	if lines, more, e := b.Page(number, most); lines != nil || more || e != want {
		t.Errorf("P9: Page(%d, %d) = %q, %t, %d, want nothing, false, %d", number, most, lines, more, e, want)
	}
}

func ticks(b *tallyman.Board, n int) {
	for range n {
		b.Tick()
	}
}

// rest gives all lines that a reading has still to tell.
func rest(t *testing.T, b *tallyman.Board, number, most int) []string {
	t.Helper()
	var all []string
	for {
		lines, more, e := b.Page(number, most)
		if e != api.OK || len(lines) > most || more && len(lines) < most {
			t.Fatalf("P9: Page(%d, %d) = %q, %t, %d", number, most, lines, more, e)
		}
		all = append(all, lines...)
		if !more {
			return all
		}
	}
}

// linesFrom gives the lines of now.
func linesFrom(t *testing.T, b *tallyman.Board, from string) []string {
	t.Helper()
	number, e := b.Open(from)
	if e != api.OK {
		t.Fatalf("P9: Open(%q) = %d", from, e)
	}
	return rest(t, b, number, api.MaxPage)
}

func wantLines(t *testing.T, b *tallyman.Board, want ...string) {
	t.Helper()
	if lines := linesFrom(t, b, ""); !slices.Equal(lines, want) {
		t.Errorf("P8: the lines are %q, want %q", lines, want)
	}
}

func TestReadingOfDocument(t *testing.T) {
	b := tallyman.New()
	family(t, b, api.OK, "hits", api.Counter)
	change(t, b, api.OK, `hits{a="1"}`, 5)
	change(t, b, api.OK, `hits{a="1"}`, 2)
	wantLines(t, b, "# hits counter", `hits{a="1"} 7`)
	family(t, b, api.OK, "wait", api.Histogram, 10, 20)
	for _, n := range []int{5, 10, 25} {
		change(t, b, api.OK, "wait", n)
	}
	open(t, b, "", 0)
	change(t, b, api.OK, `hits{a="1"}`, 1)
	page(t, b, 0, 2, true, "# hits counter", `hits{a="1"} 7`)
	page(t, b, 0, 20, false, "# wait histogram", "wait upto 10 2", "wait upto 20 2", "wait all 3 sum 40")
	pageRefused(t, b, 0, 20, api.ErrRead)
	open(t, b, "wait", 0)
	page(t, b, 0, 20, false, "# wait histogram", "wait upto 10 2", "wait upto 20 2", "wait all 3 sum 40")
}

func TestReadingOfNothing(t *testing.T) {
	b := tallyman.New()
	pageRefused(t, b, 0, 1, api.ErrRead)
	for _, from := range []string{"", "a"} {
		open(t, b, from, 0)
		family(t, b, api.OK, "later", api.Gauge)
		change(t, b, api.OK, "later", 1)
		pageRefused(t, b, 0, 0, api.ErrArg)
		page(t, b, 0, 1, false)
		pageRefused(t, b, 0, 1, api.ErrRead)
		b = tallyman.New()
	}
}

func TestFamiliesWithoutSeries(t *testing.T) {
	b := tallyman.New()
	for i, name := range []string{"b", "aa", "_", "a_", "a", "a0", "__", longName} {
		family(t, b, api.OK, name, api.Counter+i%2)
	}
	wantLines(t, b, "# _ counter", "# __ counter", "# a counter", "# a0 gauge", "# a_ gauge", "# aa gauge", "# "+longName+" gauge", "# b counter")
}

func TestSeriesInTheOrderOfTheirPlainForms(t *testing.T) {
	b := tallyman.New()
	family(t, b, api.OK, "f", api.Gauge)
	family(t, b, api.OK, "f_", api.Gauge)
	for i, text := range []string{
		`f_{a=""}`, "f{b=\"\xff\"}", `f{b="é"}`, "f{b=\"\n\"}", `f{b="\\"}`, `f{b="\""}`, `f{b="z"}`, "f{b=\"\x00\"}",
		`f{c="",a="1"}`, `f{aa=""}`, `f{a="1",b=""}`, `f{a="1"}`, `f{a="10"}`, "f", "f_",
	} {
		change(t, b, api.OK, text, i)
	}
	wantLines(t, b, "# f gauge", "f 13", `f{a="1",b=""} 10`, `f{a="1",c=""} 8`, `f{a="1"} 11`, `f{a="10"} 12`, `f{aa=""} 9`,
		"f{b=\"\x00\"} 7", `f{b="\""} 5`, `f{b="\\"} 4`, `f{b="\n"} 3`, `f{b="z"} 6`, `f{b="é"} 2`, "f{b=\"\xff\"} 1",
		"# f_ gauge", "f_ 14", `f_{a=""} 0`)
}

func TestNumbersAtTheBounds(t *testing.T) {
	b := tallyman.New()
	family(t, b, api.OK, "c", api.Counter)
	family(t, b, api.OK, "g", api.Gauge)
	family(t, b, api.OK, "h", api.Histogram, -api.MaxNumber, api.MaxNumber)
	for _, text := range []string{"c", "g", "h"} {
		change(t, b, api.OK, text, 0)
	}
	wantLines(t, b, "# c counter", "c 0", "# g gauge", "g 0", "# h histogram", "h upto -1000000000 0", "h upto 1000000000 1", "h all 1 sum 0")
	for _, text := range []string{"c", "c", "g", "h", "h"} {
		change(t, b, api.OK, text, api.MaxNumber)
	}
	wantLines(t, b, "# c counter", "c 1000000000", "# g gauge", "g 1000000000", "# h histogram", "h upto -1000000000 0", "h upto 1000000000 3", "h all 3 sum 1000000000")
	for _, text := range []string{"g", "h", "h", "h", "h"} {
		change(t, b, api.OK, text, -api.MaxNumber)
	}
	wantLines(t, b, "# c counter", "c 1000000000", "# g gauge", "g -1000000000", "# h histogram", "h upto -1000000000 4", "h upto 1000000000 7", "h all 7 sum -1000000000")
	change(t, b, api.OK, "g", -10)
	for range 4 {
		change(t, b, api.OK, "h", 100)
	}
	wantLines(t, b, "# c counter", "c 1000000000", "# g gauge", "g -10", "# h histogram", "h upto -1000000000 4", "h upto 1000000000 11", "h all 11 sum -999999600")
}

func TestFromWhichNameOnIsRead(t *testing.T) {
	b := tallyman.New()
	for _, name := range []string{"hits", "hits_", "load", longName} {
		family(t, b, api.OK, name, api.Counter)
		change(t, b, api.OK, name, 1)
	}
	all := []string{"# " + longName + " counter", longName + " 1", "# hits counter", "hits 1", "# hits_ counter", "hits_ 1", "# load counter", "load 1"}
	for _, c := range []struct {
		from string
		told int
	}{
		{"", 0}, {"_", 0}, {"a", 0}, {longName[:11], 0}, {longName, 0}, {"abcdefghijkm", 2}, {"b", 2}, {"hit", 2}, {"hits", 2}, {"hits0", 4},
		{"hits_", 4}, {"hitsa", 6}, {"i", 6}, {"load", 6}, {"load0", 8}, {"zzzzzzzzzzzz", 8},
	} {
		if lines := linesFrom(t, b, c.from); !slices.Equal(lines, all[c.told:]) {
			t.Errorf("P9: from %q on: %q, want %q", c.from, lines, all[c.told:])
		}
	}
}

func TestOpenRefusesTexts(t *testing.T) {
	b := threeKinds(t)
	refused := []string{"9", "Hits", " ", "a ", "a b", "hits{}", `hits{a="1"}`, "é", "\xff", "a\x00", longName + "m", string(make([]byte, 1<<16))}
	for _, from := range refused {
		openRefused(t, b, from, api.ErrText)
	}
	for number := range api.MaxReadings {
		open(t, b, "", number)
	}
	for _, from := range refused {
		openRefused(t, b, from, api.ErrText)
	}
	for _, from := range []string{"", "a", "hits"} {
		openRefused(t, b, from, api.ErrFull)
	}
}

func TestLeastFreeNumber(t *testing.T) {
	b := threeKinds(t)
	for number := range api.MaxReadings {
		open(t, b, "", number)
	}
	end := func(numbers ...int) {
		t.Helper()
		for _, number := range numbers {
			rest(t, b, number, api.MaxPage)
			pageRefused(t, b, number, 1, api.ErrRead)
		}
	}
	end(1)
	open(t, b, "", 1)
	openRefused(t, b, "", api.ErrFull)
	end(2)
	open(t, b, "", 2)
	end(2, 0)
	open(t, b, "", 0)
	open(t, b, "", 2)
	end(0, 2, 1)
	for number := range api.MaxReadings {
		open(t, b, "", number)
	}
	for range 100 {
		end(1)
		open(t, b, "hits", 1)
	}
}

func TestPageRefuses(t *testing.T) {
	b := threeKinds(t)
	numbers := []int{-1, 3, 4, math.MaxInt, math.MinInt, math.MaxInt32 + 1, 1 << 32}
	mosts := []int{0, -1, api.MaxPage + 1, math.MaxInt, math.MinInt, 1<<32 + 1}
	none := slices.Concat(numbers, []int{0, 1, 2})
	for opened := range api.MaxReadings {
		for _, number := range none {
			pageRefused(t, b, number, 1, api.ErrRead)
			for _, most := range mosts {
				pageRefused(t, b, number, most, api.ErrRead)
			}
		}
		open(t, b, "", opened)
		none = slices.DeleteFunc(none, func(number int) bool { return number == opened })
		for _, most := range mosts {
			pageRefused(t, b, opened, most, api.ErrArg)
		}
	}
	for number := range api.MaxReadings {
		page(t, b, number, 2, true, "# hits counter", `hits{a="1"} 7`)
	}
}

func TestPageThatJustEnds(t *testing.T) {
	b := threeKinds(t)
	all := linesFrom(t, b, "")
	if len(all) != 8 {
		t.Fatalf("%d lines: %q", len(all), all)
	}
	open(t, b, "", 0)
	page(t, b, 0, 8, false, all...)
	pageRefused(t, b, 0, 8, api.ErrRead)
	open(t, b, "", 0)
	page(t, b, 0, 7, true, all[:7]...)
	page(t, b, 0, 1, false, all[7])
	pageRefused(t, b, 0, 1, api.ErrRead)
	open(t, b, "", 0)
	page(t, b, 0, 4, true, all[:4]...)
	page(t, b, 0, 4, false, all[4:]...)
	pageRefused(t, b, 0, 0, api.ErrRead)
}

// TestPagesOfEveryLength reads as many lines as there may be.
func TestPagesOfEveryLength(t *testing.T) {
	b := tallyman.New()
	var all []string
	for i := range api.MaxFamilies {
		name := fmt.Sprintf("f%d", i)
		family(t, b, api.OK, name, api.Histogram, -5, 0, 10, 20)
		all = append(all, "# "+name+" histogram")
		for j := range api.MaxSeries / api.MaxFamilies {
			series := fmt.Sprintf(`%s{n="%d"}`, name, j)
			change(t, b, api.OK, series, 10*j)
			all = append(all, series+" upto -5 0", fmt.Sprint(series, " upto 0 ", 1-min(j, 1)),
				fmt.Sprint(series, " upto 10 ", 1-j/2), series+" upto 20 1", fmt.Sprint(series, " all 1 sum ", 10*j))
		}
	}
	for most := 1; most <= api.MaxPage; most++ {
		open(t, b, "", 0)
		for at := 0; at < len(all); at += most {
			end := min(at+most, len(all))
			page(t, b, 0, most, end < len(all), all[at:end]...)
		}
		pageRefused(t, b, 0, most, api.ErrRead)
	}
}

func TestReadingIsIdleForTooLong(t *testing.T) {
	b := threeKinds(t)
	open(t, b, "", 0)
	ticks(b, api.MaxIdle-1)
	page(t, b, 0, 1, true, "# hits counter")
	ticks(b, api.MaxIdle-1)
	page(t, b, 0, 1, true, `hits{a="1"} 7`)
	ticks(b, api.MaxIdle)
	pageRefused(t, b, 0, 1, api.ErrRead)
	open(t, b, "", 0)
	ticks(b, api.MaxIdle)
	pageRefused(t, b, 0, 1, api.ErrRead)
	ticks(b, 1000)
	open(t, b, "", 0)
	ticks(b, api.MaxIdle-1)
	page(t, b, 0, 1, true, "# hits counter")
}

func TestErrorsKeepNoReadingAlive(t *testing.T) {
	b := threeKinds(t)
	for number := range api.MaxReadings {
		open(t, b, "", number)
	}
	ticks(b, api.MaxIdle-1)
	page(t, b, 2, 1, true, "# hits counter")
	pageRefused(t, b, 0, 0, api.ErrArg)
	pageRefused(t, b, 0, api.MaxPage+1, api.ErrArg)
	pageRefused(t, b, 3, 1, api.ErrRead)
	openRefused(t, b, "", api.ErrFull)
	openRefused(t, b, "9", api.ErrText)
	change(t, b, api.OK, `hits{a="1"}`, 1)
	change(t, b, api.ErrName, "none", 1)
	family(t, b, api.OK, "new", api.Gauge)
	drop(t, b, api.OK, `wait{a="1"}`)
	b.Tick()
	pageRefused(t, b, 0, 1, api.ErrRead)
	pageRefused(t, b, 1, 1, api.ErrRead)
	page(t, b, 2, 1, true, `hits{a="1"} 7`)
}

func TestEachReadingHasItsOwnTicks(t *testing.T) {
	b := threeKinds(t)
	open(t, b, "", 0)
	b.Tick()
	open(t, b, "", 1)
	b.Tick()
	open(t, b, "", 2)
	ticks(b, api.MaxIdle-3)
	page(t, b, 1, 1, true, "# hits counter") // 4 ticks behind the opening of 0, 3 behind that of 1, 2 behind that of 2
	b.Tick()
	pageRefused(t, b, 0, 1, api.ErrRead)
	open(t, b, "", 0)
	ticks(b, 2)
	pageRefused(t, b, 2, 1, api.ErrRead)
	page(t, b, 1, 1, true, `hits{a="1"} 7`)
	open(t, b, "load", 2)
	ticks(b, 2)
	page(t, b, 0, 1, true, "# hits counter")
	b.Tick()
	page(t, b, 2, 1, true, "# load gauge")
	page(t, b, 0, 1, true, `hits{a="1"} 7`)
	page(t, b, 1, 1, true, "# load gauge")
}

func TestIdleReadingsMakeRoom(t *testing.T) {
	b := threeKinds(t)
	for number := range api.MaxReadings {
		open(t, b, "", number)
	}
	ticks(b, api.MaxIdle-1)
	openRefused(t, b, "", api.ErrFull)
	page(t, b, 1, 1, true, "# hits counter")
	b.Tick()
	open(t, b, "", 0)
	open(t, b, "", 2)
	openRefused(t, b, "", api.ErrFull)
}

// TestMomentsInTurns opens a reading ahead of each kind of change, and reads them in turns
// behind each.
func TestMomentsInTurns(t *testing.T) {
	changes := []func(b *tallyman.Board) api.Errno{
		func(b *tallyman.Board) api.Errno { return b.Change(`hits{a="1"}`, 1) },
		func(b *tallyman.Board) api.Errno { return b.Change("hits", 1) },
		func(b *tallyman.Board) api.Errno { return b.Change(`load{a="1"}`, -3) },
		func(b *tallyman.Board) api.Errno { return b.Change(`wait{a="1"}`, 15) },
		func(b *tallyman.Board) api.Errno { return b.Change(`wait{a="0"}`, 30) },
		func(b *tallyman.Board) api.Errno { return b.Drop(`hits{a="1"}`) },
		func(b *tallyman.Board) api.Errno { return b.Drop(`wait{a="1"}`) },
		func(b *tallyman.Board) api.Errno { return b.Family("idle", api.Gauge, nil) },
		func(b *tallyman.Board) api.Errno { return b.Family("a", api.Counter, nil) },
		func(b *tallyman.Board) api.Errno { return b.Family("z", api.Histogram, []int{1}) },
		func(b *tallyman.Board) api.Errno { return b.Change("idle", 4) },
		func(b *tallyman.Board) api.Errno { return b.Change("a", 4) },
		func(b *tallyman.Board) api.Errno { return b.Change(`hits{a="1"}`, 9) },
		func(b *tallyman.Board) api.Errno { return b.Drop(`load{a="1"}`) },
	}
	for first := range changes {
		for second := first; second < len(changes); second++ {
			for third := second; third < len(changes); third++ {
				readInTurns(t, changes, [3]int{first, second, third})
			}
		}
	}
}

// readInTurns opens a reading ahead of each of those changes, and tells a line of each
// reading behind every change.
func readInTurns(t *testing.T, changes []func(*tallyman.Board) api.Errno, ahead [3]int) {
	t.Helper()
	type turn struct {
		number     int
		want, told []string
	}
	b := threeKinds(t)
	var turns []*turn
	for now, change := range changes {
		for _, at := range ahead {
			if at == now {
				number, e := b.Open("")
				if e != api.OK {
					t.Fatalf("P9: Open = %d", e)
				}
				turns = append(turns, &turn{number: number, want: linesBehind(t, changes[:now])})
			}
		}
		if e := change(b); e != api.OK {
			t.Fatalf("change %d: %d", now, e)
		}
		for _, one := range turns {
			if len(one.told) < len(one.want) {
				lines, _, e := b.Page(one.number, 1)
				if e != api.OK {
					t.Fatalf("P9: Page = %d", e)
				}
				one.told = append(one.told, lines...)
			}
		}
	}
	for i, one := range turns {
		if len(one.told) < len(one.want) {
			one.told = append(one.told, rest(t, b, one.number, 3)...)
		}
		if !slices.Equal(one.told, one.want) {
			t.Errorf("P10: the reading opened ahead of change %d told %q, want %q", ahead[i], one.told, one.want)
		}
	}
}

// linesBehind gives the lines of a board that has never been read ahead of them.
func linesBehind(t *testing.T, changes []func(*tallyman.Board) api.Errno) []string {
	t.Helper()
	b := threeKinds(t)
	for _, change := range changes {
		change(b)
	}
	return linesFrom(t, b, "")
}

func TestSeriesThatIsDroppedAndComesAgain(t *testing.T) {
	b := threeKinds(t)
	open(t, b, "", 0)
	drop(t, b, api.OK, `hits{a="1"}`)
	open(t, b, "", 1)
	change(t, b, api.OK, `hits{a="1"}`, 2)
	open(t, b, "", 2)
	change(t, b, api.OK, `hits{a="1"}`, 2)
	page(t, b, 0, 3, true, "# hits counter", `hits{a="1"} 7`, "# load gauge")
	page(t, b, 1, 2, true, "# hits counter", "# load gauge")
	page(t, b, 2, 3, true, "# hits counter", `hits{a="1"} 2`, "# load gauge")
	rest(t, b, 0, 20)
	open(t, b, "", 0)
	page(t, b, 0, 2, true, "# hits counter", `hits{a="1"} 4`)
}

// TestReadingChangesNoCount counts on two boards, of which one is read all the time.
func TestReadingChangesNoCount(t *testing.T) {
	quiet, b := threeKinds(t), threeKinds(t)
	for i := range 200 {
		b.Open([]string{"", "load", "zz", "9"}[i%4])
		b.Page(i%5-1, i%(api.MaxPage+3)-1)
		if i%7 == 0 {
			b.Tick()
		}
		text := fmt.Sprintf(`%s{n="%d"}`, []string{"hits", "load", "wait", "none"}[i%4], i%11)
		for _, each := range []func(*tallyman.Board) api.Errno{
			func(b *tallyman.Board) api.Errno { return b.Change(text, i) },
			func(b *tallyman.Board) api.Errno { return b.Drop(fmt.Sprintf(`hits{n="%d"}`, i*i%13)) },
			func(b *tallyman.Board) api.Errno { return b.Family(fmt.Sprintf("f%d", i%17), i%3, nil) },
		} {
			if e, want := each(b), each(quiet); e != want {
				t.Fatalf("P10: step %d: %d on the board that is read, %d on the other", i, e, want)
			}
		}
	}
	ticks(b, api.MaxIdle)
	if lines, want := linesFrom(t, b, ""), linesFrom(t, quiet, ""); !slices.Equal(lines, want) {
		t.Errorf("P10: the board that was read has %q, the other %q", lines, want)
	}
}

func TestPagesAreTheCallers(t *testing.T) {
	b := threeKinds(t)
	all := linesFrom(t, b, "")
	var pages [][]string
	for number := range api.MaxReadings {
		open(t, b, "", number)
	}
	for at := 0; at < len(all); at += 3 {
		for number := range api.MaxReadings {
			lines, _, e := b.Page(number, 3)
			if want := all[at:min(at+3, len(all))]; e != api.OK || !slices.Equal(lines, want) {
				t.Fatalf("P2: Page(%d, 3) = %q, %d, want %q", number, lines, e, want)
			}
			whole := lines[:cap(lines)]
			for i := range whole {
				whole[i] = fmt.Sprint("mine ", len(pages), " ", i)
			}
			pages = append(pages, whole)
		}
	}
	for n, whole := range pages {
		for i, line := range whole {
			if line != fmt.Sprint("mine ", n, " ", i) {
				t.Errorf("P2: page %d has become %q at %d", n, line, i)
			}
		}
	}
	wantLines(t, b, all...)
}

func TestEmptyPageIsTheCallers(t *testing.T) {
	b := threeKinds(t)
	open(t, b, "z", 0)
	open(t, b, "z", 1)
	first, _, _ := b.Page(0, 5)
	second, _, _ := b.Page(1, 5)
	first, second = append(first, "first"), append(second, "second")
	if first[0] != "first" || second[0] != "second" {
		t.Errorf("P2: two empty pages share their spare room: %q, %q", first, second)
	}
}

func TestFromIsTheCallers(t *testing.T) {
	b := threeKinds(t)
	bytes := []byte("load")
	open(t, b, unsafe.String(&bytes[0], 4), 0)
	if string(bytes) != "load" {
		t.Errorf("P2: the text was written into: %q", bytes)
	}
	copy(bytes, "zzzz")
	page(t, b, 0, 2, true, "# load gauge", `load{a="1"} 7`)
	copy(bytes, "\xff\xff\xff\xff")
	page(t, b, 0, 1, true, "# wait histogram")
}

func TestLinesOutlastTheTextsOfTheCaller(t *testing.T) {
	b := tallyman.New()
	name, series := []byte("hits"), []byte(`hits{a="1"}`)
	family(t, b, api.OK, unsafe.String(&name[0], len(name)), api.Counter)
	change(t, b, api.OK, unsafe.String(&series[0], len(series)), 1)
	open(t, b, "", 0)
	clear(name)
	clear(series)
	page(t, b, 0, 2, false, "# hits counter", `hits{a="1"} 1`)
}

// midway gives a board with three readings, each at another place and of other ticks.
func midway(t *testing.T) *tallyman.Board {
	t.Helper()
	b := fullBoard(t)
	open(t, b, "", 0)
	b.Tick()
	open(t, b, "f3", 1)
	rest := 7
	if lines, _, e := b.Page(0, rest); e != api.OK || len(lines) != rest {
		t.Fatalf("P9: Page(0, %d) = %q, %d", rest, lines, e)
	}
	b.Tick()
	change(t, b, api.OK, `f3{n="1"}`, 100)
	open(t, b, "zz", 2)
	return b
}

func TestErrorsChangeNoReading(t *testing.T) {
	before, b := midway(t), midway(t)
	openRefused(t, b, "", api.ErrFull)
	openRefused(t, b, "9", api.ErrText)
	pageRefused(t, b, 0, 0, api.ErrArg)
	pageRefused(t, b, 1, api.MaxPage+1, api.ErrArg)
	pageRefused(t, b, 2, math.MinInt, api.ErrArg)
	pageRefused(t, b, 3, 1, api.ErrRead)
	pageRefused(t, b, -1, 0, api.ErrRead)
	change(t, b, api.ErrFull, "f0", 1)
	change(t, b, api.ErrArg, `f3{n="1"}`, math.MaxInt)
	drop(t, b, api.ErrName, "f0")
	family(t, b, api.ErrFull, "x", api.Gauge)
	family(t, b, api.ErrKind, "f0", api.Counter)
	family(t, b, api.OK, "f0", api.Gauge)
	if !reflect.DeepEqual(b, before) {
		t.Error("P1: an error has changed the board")
	}
	b.Tick()
	if reflect.DeepEqual(b, before) {
		t.Error("two boards are held for equal that are not")
	}
}

func TestReadingsOfTwoBoards(t *testing.T) {
	first, second := threeKinds(t), tallyman.New()
	open(t, first, "", 0)
	open(t, first, "load", 1)
	pageRefused(t, second, 0, 1, api.ErrRead)
	family(t, second, api.OK, "hits", api.Gauge)
	change(t, second, api.OK, "hits", -1)
	open(t, second, "", 0)
	ticks(second, api.MaxIdle-1)
	page(t, second, 0, 1, true, "# hits gauge")
	page(t, first, 0, 2, true, "# hits counter", `hits{a="1"} 7`)
	ticks(second, api.MaxIdle)
	pageRefused(t, second, 0, 1, api.ErrRead)
	page(t, first, 1, 2, true, "# load gauge", `load{a="1"} 7`)
	open(t, first, "", 2)
	openRefused(t, first, "", api.ErrFull)
	open(t, second, "", 0)
	page(t, second, 0, 5, false, "# hits gauge", "hits -1")
	ticks(first, api.MaxIdle)
	open(t, first, "", 0)
}
