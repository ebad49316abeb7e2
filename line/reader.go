package line

import (
	"strings"

	"tryst/api"
	"tryst/escape"
)

// A reader reads a text of UTF-8 from left to right. When one of its methods returns an error, at is
// the position of that error.
type reader struct {
	text string
	at   int
}

// line reads all of the text.
func (r *reader) line() (Line, api.Errno) {
	name, ok := r.name()
	if !ok {
		return Line{}, api.ErrSyntax
	}
	var params []Param
	for r.take(';') {
		p, e := r.param(params)
		if e != api.OK {
			return Line{}, e
		}
		params = append(params, p)
	}
	if !r.take(':') {
		return Line{}, api.ErrSyntax
	}
	value := strings.Clone(r.text[r.at:])
	if !formedValue(value) {
		return Line{}, api.ErrValue
	}
	return Line{Name: name, Params: params, Value: value}, api.OK
}

// param reads a parameter that follows those before it.
func (r *reader) param(before []Param) (Param, api.Errno) {
	begin := r.at
	name, ok := r.name()
	if !ok || !r.take('=') {
		return Param{}, api.ErrSyntax
	}
	if len(before) == api.MaxList || index(before, name) >= 0 {
		r.at = begin
		return Param{}, api.ErrMany
	}
	var values []string
	for {
		value, e := r.value()
		if e != api.OK {
			return Param{}, e
		}
		values = append(values, value)
		if !r.take(',') {
			return Param{Name: name, Values: values}, api.OK
		}
		if len(values) == api.MaxList {
			r.at = begin
			return Param{}, api.ErrMany
		}
	}
}

// value reads a value of a parameter. Layer 9 sees it only when its end has been found, so that an
// error of the syntax within it comes first.
func (r *reader) value() (string, api.Errno) {
	begin := r.at
	if !r.skipValue() {
		return "", api.ErrSyntax
	}
	value, e := escape.Value(r.text[begin:r.at])
	if e != api.OK {
		r.at = begin
		return "", api.ErrValue
	}
	return value, api.OK
}

// skipValue skips a value of a parameter as it is written, and reports whether it has an end.
func (r *reader) skipValue() bool {
	if r.take('"') {
		r.skipTo(`"`)
		return r.take('"')
	}
	r.skipTo(`",;:`)
	return r.at < len(r.text) && r.text[r.at] != '"'
}

// name reads a name, and returns it in upper-case letters, and whether there is one. It stops after
// MaxName letters, so that an excess one is left for what has to follow the name.
func (r *reader) name() (string, bool) {
	var name []byte
	for r.at < len(r.text) && len(name) < api.MaxName && inName(upper(r.text[r.at])) {
		name = append(name, upper(r.text[r.at]))
		r.at++
	}
	return string(name), len(name) > 0
}

// take skips the next byte if it is c, and reports whether it is.
func (r *reader) take(c byte) bool {
	if r.at == len(r.text) || r.text[r.at] != c {
		return false
	}
	r.at++
	return true
}

// skipTo skips all that is before the first of the marks, or before the end.
func (r *reader) skipTo(marks string) {
	n := strings.IndexAny(r.text[r.at:], marks)
	if n < 0 {
		n = len(r.text) - r.at
	}
	r.at += n
}
