package series

import "tallyman/api"

// reader goes through a text byte by byte. It never steps over a byte that cannot
// stand where it stands: when a method answers false, at is the place of the fault,
// which is the text's length if the text ends too early.
type reader struct {
	text string
	at   int
}

func (r *reader) ended() bool { return r.at == len(r.text) }

// take steps over the byte b, if it comes next.
func (r *reader) take(b byte) bool {
	if r.ended() || r.text[r.at] != b {
		return false
	}
	r.at++
	return true
}

func (r *reader) series() (Series, bool) {
	name, ok := r.name()
	if !ok {
		return Series{}, false
	}
	if r.ended() {
		return Series{name: name}, true
	}
	labels, ok := r.labels()
	if !ok || !r.ended() {
		return Series{}, false
	}
	return Series{name: name, labels: labels}, true
}

// name stops at MaxName bytes: a byte too many is then a fault to whoever asks for
// what has to stand behind the name.
func (r *reader) name() (string, bool) {
	from := r.at
	for !r.ended() && r.at-from < api.MaxName && nameByte(r.text[r.at], r.at == from) {
		r.at++
	}
	return r.text[from:r.at], r.at > from
}

func nameByte(b byte, first bool) bool {
	return 'a' <= b && b <= 'z' || b == '_' || !first && '0' <= b && b <= '9'
}

func (r *reader) labels() ([]label, bool) {
	if !r.take('{') {
		return nil, false
	}
	var labels []label
	for {
		l, ok := r.label()
		if !ok {
			return nil, false
		}
		labels = append(labels, l)
		if len(labels) == api.MaxLabels || !r.take(',') {
			return labels, r.take('}')
		}
	}
}

func (r *reader) label() (label, bool) {
	at := r.at
	name, ok := r.name()
	if !ok || !r.take('=') || !r.take('"') {
		return label{}, false
	}
	value, ok := r.value()
	if !ok {
		return label{}, false
	}
	return label{name: name, value: value, at: at}, true
}

// value reads a value and the quote behind it.
func (r *reader) value() (string, bool) {
	value := make([]byte, 0, api.MaxValue)
	for !r.take('"') {
		if len(value) == api.MaxValue {
			return "", false
		}
		b, ok := r.valueByte()
		if !ok {
			return "", false
		}
		value = append(value, b)
	}
	return string(value), true
}

func (r *reader) valueByte() (byte, bool) {
	if r.ended() {
		return 0, false
	}
	if r.take('\\') {
		return r.escaped()
	}
	b := r.text[r.at]
	r.at++
	return b, true
}

func (r *reader) escaped() (byte, bool) {
	switch {
	case r.take('"'):
		return '"', true
	case r.take('\\'):
		return '\\', true
	case r.take('n'):
		return '\n', true
	}
	return 0, false
}
