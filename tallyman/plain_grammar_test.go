package tallyman_test

import (
	"regexp"
	"slices"
	"strings"
	"testing"

	"tallyman/api"
	"tallyman/tallyman"
)

// The document's words once more, as a pattern, so that Plain is held against
// something that is written another way.
const (
	namePattern  = `[a-z_][a-z0-9_]{0,11}`
	valuePattern = `(?:[^"\\]|\\["\\n]){0,16}`
	labelPattern = namePattern + `="` + valuePattern + `"`
)

var (
	seriesPattern = regexp.MustCompile(`(?s)\A` + namePattern + `(?:\{` + labelPattern + `(?:,` + labelPattern + `){0,2}\})?\z`)
	eachLabel     = regexp.MustCompile(`(?s)[{,](` + namePattern + `)="(` + valuePattern + `)"`)
)

// runes makes each byte one rune, so that the patterns count bytes.
func runes(text string) string {
	var out strings.Builder
	for i := range len(text) {
		out.WriteRune(rune(text[i]))
	}
	return out.String()
}

func bytesOf(text string) string {
	var out []byte
	for _, r := range text {
		out = append(out, byte(r))
	}
	return string(out)
}

// goesOn asks whether some series' text begins with this one: from each place in
// the grammar, one of these endings leads to a whole text.
func goesOn(text string) bool {
	for _, ending := range []string{"", "a", `a=""}`, `=""}`, `""}`, `"}`, `n"}`, `}`} {
		if seriesPattern.MatchString(runes(text + ending)) {
			return true
		}
	}
	return false
}

func expected(text string) (string, api.Errno, int) {
	if len(text) > api.MaxText {
		return "", api.ErrLong, 0
	}
	if !seriesPattern.MatchString(runes(text)) {
		for end := 1; end <= len(text); end++ {
			if !goesOn(text[:end]) {
				return "", api.ErrText, end - 1
			}
		}
		return "", api.ErrText, len(text)
	}
	return expectedPlain(runes(text))
}

func expectedPlain(wide string) (string, api.Errno, int) {
	name, _, labelled := strings.Cut(wide, "{")
	if !labelled {
		return wide, api.OK, 0
	}
	var names, labels []string
	for _, m := range eachLabel.FindAllStringSubmatchIndex(wide, -1) {
		label := wide[m[2]:m[3]]
		if slices.Contains(names, label) {
			return "", api.ErrLabel, len(bytesOf(wide[:m[2]]))
		}
		names = append(names, label)
		// Behind the name stands a byte below all others: by "=", which is above the
		// digits, a9 would come ahead of a.
		labels = append(labels, label+"\x00"+strings.ReplaceAll(wide[m[4]:m[5]], "\n", `\n`))
	}
	slices.Sort(labels)
	for i, l := range labels {
		label, value, _ := strings.Cut(l, "\x00")
		labels[i] = label + `="` + value + `"`
	}
	return bytesOf(name + "{" + strings.Join(labels, ",") + "}"), api.OK, 0
}

func hold(t *testing.T, text string) {
	t.Helper()
	plain, e, at := tallyman.Plain(text)
	wantPlain, wantE, wantAt := expected(text)
	if plain != wantPlain || e != wantE || at != wantAt {
		t.Fatalf("Plain(%q) = %q, %d, %d, want %q, %d, %d", text, plain, e, at, wantPlain, wantE, wantAt)
	}
}

func seeds() []string {
	return []string{
		"", "a", longName, longName + "m", `hits{b="2",a="1"}`, `a{a9="",a="",a_=""}`, `a{b="",a="",b=""}`, `a{a="",b="",c="",d=""}`,
		"a{b=\"\\\"\\\\\\n\n\",a=\",}{=\"}", `a{` + longName + `="` + longValue + `"}`, `a{b="` + strings.Repeat(`\n`, 16) + `"}`,
		textOf100(),
	}
}

func TestPlainOfTextsOneByteAway(t *testing.T) {
	for _, seed := range seeds() {
		hold(t, seed)
		for i := range len(seed) + 1 {
			for _, b := range []byte("a9_{}=\",\\n \n\x00\xffA") {
				hold(t, seed[:i]+string([]byte{b})+seed[i:])
				if i < len(seed) {
					hold(t, seed[:i]+string([]byte{b})+seed[i+1:])
				}
			}
			if i < len(seed) {
				hold(t, seed[:i]+seed[i+1:])
			}
		}
	}
}

func TestPlainOfAllShortEndings(t *testing.T) {
	for _, start := range []string{"", `a{a`, `a{a="`, `a{b="",a=""`, `a{a="",b="",c=""`} {
		holdEndings(t, start, 4)
	}
}

func holdEndings(t *testing.T, start string, more int) {
	hold(t, start)
	if more == 0 {
		return
	}
	for _, b := range []byte("a9{}=\",\\n") {
		holdEndings(t, start+string(b), more-1)
	}
}

func FuzzPlain(f *testing.F) {
	for _, seed := range seeds() {
		f.Add(seed)
	}
	f.Fuzz(func(t *testing.T, text string) { hold(t, text) })
}
