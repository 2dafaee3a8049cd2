// Package series: what a series' text tells, and its plain form.
package series

import (
	"strings"

	"tallyman/api"
	"tallyman/order"
)

// Series is what a series' text tells, its labels in the order of their names.
// Its names lie in the text that was read: who keeps one keeps a copy.
type Series struct {
	name   string
	labels []label
}

type label struct {
	name  string
	value string // without escapes
	at    int    // where the name begins in the text
}

func nameOf(l label) string { return l.name }

// Read reads a series' text; beside an error it tells the place of the fault.
func Read(text string) (Series, api.Errno, int) {
	if len(text) > api.MaxText {
		return Series{}, api.ErrLong, 0
	}
	r := reader{text: text}
	read, ok := r.series()
	if !ok {
		return Series{}, api.ErrText, r.at
	}
	sorted, twice := order.Sorted(read.labels, nameOf)
	if twice < len(read.labels) {
		return Series{}, api.ErrLabel, read.labels[twice].at
	}
	return Series{name: read.name, labels: sorted}, api.OK, 0
}

// IsName tells whether the text is a name.
func IsName(text string) bool {
	r := reader{text: text}
	_, ok := r.name()
	return ok && r.ended()
}

// Name gives the name ahead of the labels.
func (s Series) Name() string { return s.name }

// Plain writes the plain form, in new memory.
func (s Series) Plain() string {
	var out strings.Builder
	out.WriteString(s.name)
	ahead := byte('{')
	for _, l := range s.labels {
		out.WriteByte(ahead)
		writeLabel(&out, l)
		ahead = ','
	}
	if len(s.labels) > 0 {
		out.WriteByte('}')
	}
	return out.String()
}

func writeLabel(out *strings.Builder, l label) {
	out.WriteString(l.name)
	out.WriteString(`="`)
	for i := range len(l.value) {
		writeValueByte(out, l.value[i])
	}
	out.WriteByte('"')
}

func writeValueByte(out *strings.Builder, b byte) {
	switch b {
	case '"', '\\':
		out.WriteByte('\\')
		out.WriteByte(b)
	case '\n':
		out.WriteString(`\n`)
	default:
		out.WriteByte(b)
	}
}
