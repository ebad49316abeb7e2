package tree

import (
	"tryst/api"
	"tryst/line"
)

// A builder makes a component of its lines, which it is given one by one. After an error it is of no use.
type builder struct {
	open  []Tree // the components that have begun and not ended, each nested in the one before it
	ended bool
	whole Tree // once it has ended
}

// add takes the next line.
func (b *builder) add(l line.Line) api.Errno {
	if b.ended || len(b.open) == 0 && l.Name != beginName {
		return api.ErrSyntax
	}
	if l.Name != beginName && l.Name != endName {
		return b.own(l)
	}
	name := upper(l.Value)
	if len(l.Params) > 0 || !line.Name(name) {
		return api.ErrSyntax
	}
	if l.Name == beginName {
		return b.begin(name)
	}
	return b.end(name)
}

// own takes a line of the innermost open component, of which there is one.
func (b *builder) own(l line.Line) api.Errno {
	inner := &b.open[len(b.open)-1]
	// It would be written before the nested components.
	if len(inner.Kids) > 0 {
		return api.ErrSyntax
	}
	inner.Lines = append(inner.Lines, l)
	return api.OK
}

// begin opens a component.
func (b *builder) begin(name string) api.Errno {
	if len(b.open) == api.MaxNest {
		return api.ErrNest
	}
	b.open = append(b.open, Tree{Name: name})
	return api.OK
}

// end ends the innermost open component, of which there is one.
func (b *builder) end(name string) api.Errno {
	last := len(b.open) - 1
	inner := b.open[last]
	if inner.Name != name {
		return api.ErrSyntax
	}
	b.open = b.open[:last]
	if last == 0 {
		b.ended, b.whole = true, inner
		return api.OK
	}
	outer := &b.open[last-1]
	outer.Kids = append(outer.Kids, inner)
	return api.OK
}

// upper returns s with upper-case letters instead of the lower-case ones of names. No other letters
// change: some that no name has would become letters of names.
func upper(s string) string {
	letters := []byte(s)
	for i, c := range letters {
		if 'a' <= c && c <= 'z' {
			letters[i] = c - 'a' + 'A'
		}
	}
	return string(letters)
}
