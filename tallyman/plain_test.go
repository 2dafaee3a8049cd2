package tallyman_test

import (
	"slices"
	"strings"
	"testing"
	"unsafe"

	"tallyman/api"
	"tallyman/tallyman"
)

const (
	longName  = "abcdefghijkl"     // MaxName bytes
	longValue = "abcdefghijklmnop" // MaxValue bytes
)

func TestBoundsOfTheTests(t *testing.T) {
	if len(longName) != api.MaxName || len(longValue) != api.MaxValue || api.MaxLabels != 3 {
		t.Fatal("the texts of these tests do not lie at the bounds")
	}
}

func wantPlain(t *testing.T, text, want string) {
	t.Helper()
	if plain, e, at := tallyman.Plain(text); plain != want || e != api.OK || at != 0 {
		t.Errorf("P4: Plain(%q) = %q, %d, %d, want %q, OK, 0", text, plain, e, at, want)
	}
}

func wantRefused(t *testing.T, text string, want api.Errno, place int) {
	t.Helper()
	if plain, e, at := tallyman.Plain(text); plain != "" || e != want || at != place {
		t.Errorf("P3: Plain(%.120q) = %q, %d, %d, want %d, %d", text, plain, e, at, want, place)
	}
}

func TestPlainOfDocument(t *testing.T) {
	wantPlain(t, `hits{b="2",a="1"}`, `hits{a="1",b="2"}`)
	wantPlain(t, `hits`, `hits`)
	wantRefused(t, `hits{}`, api.ErrText, 5)
	wantRefused(t, `hits{a=1}`, api.ErrText, 7)
	wantRefused(t, `hits{a="1`, api.ErrText, 9)
	wantRefused(t, `Hits`, api.ErrText, 0)
	wantRefused(t, ``, api.ErrText, 0)
	wantRefused(t, `hits{a="1",a="2"}`, api.ErrLabel, 11)
	wantRefused(t, `hits{a="\t"}`, api.ErrText, 9)
}

func TestPlainOrdersLabels(t *testing.T) {
	for _, names := range [][3]string{
		{"a", "b", "c"}, {"a", "c", "b"}, {"b", "a", "c"}, {"b", "c", "a"}, {"c", "a", "b"}, {"c", "b", "a"},
	} {
		text := "x{"
		for _, name := range names {
			text += name + `="of ` + name + `",`
		}
		text = strings.TrimSuffix(text, ",") + "}"
		wantPlain(t, text, `x{a="of a",b="of b",c="of c"}`)
	}
	wantPlain(t, `x{b="1",a1="2",_="3"}`, `x{_="3",a1="2",b="1"}`)
	wantPlain(t, `x{aa="1",a="2",a_="3"}`, `x{a="2",a_="3",aa="1"}`)
	wantPlain(t, `x{a9="1",a10="2"}`, `x{a10="2",a9="1"}`)
	wantPlain(t, `x{z="a",a="z"}`, `x{a="z",z="a"}`)
}

func TestPlainOfValues(t *testing.T) {
	wantPlain(t, `x{a=""}`, `x{a=""}`)
	wantPlain(t, `x{a=" ,}{= "}`, `x{a=" ,}{= "}`)
	wantPlain(t, `x{a="\"\\\n"}`, `x{a="\"\\\n"}`)
	wantPlain(t, `x{a="\\n"}`, `x{a="\\n"}`)
	wantPlain(t, "x{a=\"\n\"}", `x{a="\n"}`)
	wantPlain(t, "x{b=\"\n\\n\",a=\"1\n2\"}", `x{a="1\n2",b="\n\n"}`)
	for b := range 256 {
		if b == '"' || b == '\\' || b == '\n' {
			continue
		}
		text := `x{a="` + string([]byte{byte(b)}) + `"}`
		wantPlain(t, text, text)
	}
}

func TestPlainAtItsBounds(t *testing.T) {
	text := longName + "{" + longName + `="` + longValue + `"}`
	wantPlain(t, text, text)
	for _, escape := range []string{`\"`, `\\`, `\n`} {
		full := `x{a="` + strings.Repeat(escape, api.MaxValue)
		wantPlain(t, full+`"}`, full+`"}`)
		wantRefused(t, full+escape+`"}`, api.ErrText, len(full))
		wantRefused(t, full+`b"}`, api.ErrText, len(full))
	}
	newlines := strings.Repeat("\n", api.MaxValue)
	wantPlain(t, "x{a=\""+newlines+"\"}", `x{a="`+strings.Repeat(`\n`, api.MaxValue)+`"}`)
	wantRefused(t, "x{a=\""+newlines+"\n\"}", api.ErrText, 5+api.MaxValue)
}

// textOf100 is a series' text of MaxText bytes.
func textOf100() string {
	full := strings.Repeat(`\\`, api.MaxValue)
	return `abc{a="` + full + `",b="` + full + `",c="` + strings.Repeat(`\\`, 8) + `z"}`
}

func TestPlainAtMaxText(t *testing.T) {
	text := textOf100()
	if len(text) != api.MaxText {
		t.Fatalf("a text of %d bytes, want %d", len(text), api.MaxText)
	}
	wantPlain(t, text, text)
	wantRefused(t, "a"+text, api.ErrLong, 0)
	wantRefused(t, strings.Repeat("a", api.MaxText+1), api.ErrLong, 0)
	wantRefused(t, strings.Repeat(" ", api.MaxText+1), api.ErrLong, 0)
	wantRefused(t, strings.Repeat("a", api.MaxText), api.ErrText, api.MaxName)
	wantRefused(t, text[:api.MaxText-1]+"!", api.ErrText, api.MaxText-1)
	wantRefused(t, text[:api.MaxText-2]+"zz", api.ErrText, api.MaxText)
}

func TestPlainMayGrow(t *testing.T) {
	value := strings.Repeat("\n", api.MaxValue)
	written := strings.Repeat(`\n`, api.MaxValue)
	text := "x{c=\"" + value + "\",b=\"" + value + "\",a=\"" + value + "\"}"
	want := `x{a="` + written + `",b="` + written + `",c="` + written + `"}`
	if len(text) > api.MaxText || len(want) <= api.MaxText {
		t.Fatal("the plain form does not grow beyond MaxText")
	}
	wantPlain(t, text, want)
}

func TestPlainRefusesNames(t *testing.T) {
	for _, text := range []string{" x", "X", "9", "{", "\x00", "\xff", "é", "-", `"`} {
		wantRefused(t, text, api.ErrText, 0)
		wantRefused(t, `x{`+text+`="1"}`, api.ErrText, 2)
	}
	for b := range 256 {
		c := byte(b)
		if c >= 'a' && c <= 'z' || c >= '0' && c <= '9' || c == '_' {
			wantPlain(t, "x"+string(c), "x"+string(c))
			continue
		}
		place := 1
		if c == '{' {
			place = 2
		}
		wantRefused(t, "x"+string([]byte{c}), api.ErrText, place)
	}
	wantRefused(t, longName+"m", api.ErrText, api.MaxName)
	wantRefused(t, longName+`m{a="1"}`, api.ErrText, api.MaxName)
	wantRefused(t, `x{`+longName+`m="1"}`, api.ErrText, 2+api.MaxName)
}

func TestPlainRefusesLabels(t *testing.T) {
	wantRefused(t, `x{a="1",}`, api.ErrText, 8)
	wantRefused(t, `x{,a="1"}`, api.ErrText, 2)
	wantRefused(t, `x{a="1";b="2"}`, api.ErrText, 7)
	wantRefused(t, `x{a="1", b="2"}`, api.ErrText, 8)
	wantRefused(t, `x{a ="1"}`, api.ErrText, 3)
	wantRefused(t, `x{a= "1"}`, api.ErrText, 4)
	wantRefused(t, `x{a="1"} `, api.ErrText, 8)
	wantRefused(t, `x{a="1"}{b="2"}`, api.ErrText, 8)
	wantRefused(t, `x{a="1"b="2"}`, api.ErrText, 7)
	wantRefused(t, `x{a}`, api.ErrText, 3)
	wantRefused(t, `x{a="1",b="2",c="3",d="4"}`, api.ErrText, 19)
	wantRefused(t, `x{a="1",b="2",c="3",`, api.ErrText, 19)
	wantPlain(t, `x{a="1",b="2",c="3"}`, `x{a="1",b="2",c="3"}`)
}

func TestPlainRefusesValues(t *testing.T) {
	wantRefused(t, `x{a="`+longValue+`q"}`, api.ErrText, 5+api.MaxValue)
	wantRefused(t, `x{a="`+longValue+`\t"}`, api.ErrText, 5+api.MaxValue)
	wantRefused(t, `x{a="`+longValue+`\`, api.ErrText, 5+api.MaxValue)
	wantRefused(t, `x{a="`+longValue[1:]+`\t"}`, api.ErrText, 5+api.MaxValue)
	wantRefused(t, `x{a="`+longValue[1:]+`\`, api.ErrText, 5+api.MaxValue)
	wantRefused(t, "x{a=\"\\\n\"}", api.ErrText, 6)
	wantRefused(t, `x{a="\N"}`, api.ErrText, 6)
	wantRefused(t, `x{a="\"}`, api.ErrText, 8)
	wantRefused(t, `x{a="""}`, api.ErrText, 6)
}

func TestPlainOfTextsThatEndTooEarly(t *testing.T) {
	text := `ab{cd="1\"",e="\\",f="\n"}`
	for end := range len(text) {
		if end == 1 || end == 2 {
			wantPlain(t, text[:end], text[:end])
			continue
		}
		wantRefused(t, text[:end], api.ErrText, end)
	}
}

func TestPlainRefusesLabelsThatStandTwice(t *testing.T) {
	wantRefused(t, `x{a="1",a="1"}`, api.ErrLabel, 8)
	wantRefused(t, `x{a="1",b="2",a="3"}`, api.ErrLabel, 14)
	wantRefused(t, `x{b="1",a="2",a="3"}`, api.ErrLabel, 14)
	wantRefused(t, `x{a="1",a="2",b="3"}`, api.ErrLabel, 8)
	wantRefused(t, `x{a="1",a="2",a="3"}`, api.ErrLabel, 8)
	wantRefused(t, `x{bb="1",a="2",bb="3"}`, api.ErrLabel, 15)
	wantPlain(t, `a{a="a",aa="a"}`, `a{a="a",aa="a"}`)
	// A fault of the text comes ahead, wherever it stands.
	wantRefused(t, `x{a="1",a="2"`, api.ErrText, 13)
	wantRefused(t, `x{a="1",a="2"}}`, api.ErrText, 14)
	wantRefused(t, `x{a="1",a="2",c="3",d="4"}`, api.ErrText, 19)
	wantRefused(t, `x{a="1",a="\t"}`, api.ErrText, 12)
}

func TestSameSeriesSamePlainForm(t *testing.T) {
	one, _, _ := tallyman.Plain("x{b=\"\n\",a=\"\"}")
	two, _, _ := tallyman.Plain(`x{a="",b="\n"}`)
	other, _, _ := tallyman.Plain(`x{a="",b="\\n"}`)
	if one != two || one == other {
		t.Errorf("P4: %q, %q, %q", one, two, other)
	}
	for _, plain := range []string{one, two, other} {
		wantPlain(t, plain, plain)
	}
}

func TestPlainIsNewMemory(t *testing.T) {
	bytes := []byte(`hits{a="1"}`)
	before := slices.Clone(bytes)
	text := unsafe.String(&bytes[0], len(bytes))
	for _, end := range []int{4, len(text)} {
		plain, _, _ := tallyman.Plain(text[:end])
		if !slices.Equal(bytes, before) {
			t.Error("P2: the text was written into")
		}
		clear(bytes)
		if plain != string(before[:end]) {
			t.Errorf("P2: the answer lies in the text of %d bytes", end)
		}
		copy(bytes, before)
	}
}
