package zone

import (
	"strings"

	"tryst/api"
	"tryst/line"
	"tryst/recur"
	"tryst/tree"
	"tryst/value"
)

// The names of a zone's components and of their lines.
const (
	zoneName     = "VTIMEZONE"
	standardName = "STANDARD"
	daylightName = "DAYLIGHT"

	nameName  = "TZID"
	startName = "DTSTART"
	fromName  = "TZOFFSETFROM"
	toName    = "TZOFFSETTO"
	ruleName  = "RRULE"
	moreName  = "RDATE"
)

// Tree returns the component of z.
func Tree(z Zone) (tree.Tree, api.Errno) {
	if !Right(z) {
		return tree.Tree{}, api.ErrZone
	}
	t := tree.Tree{Name: zoneName, Lines: []line.Line{{Name: nameName, Value: strings.Clone(z.Name)}}}
	for _, o := range z.L {
		t.Kids = append(t.Kids, tree.Tree{Name: standardName, Lines: linesOf(o)})
	}
	return t, api.OK
}

// Of returns the zone of the component.
func Of(t tree.Tree) (Zone, api.Errno) {
	z, ok := read(t)
	if !ok || !Right(z) {
		return Zone{}, api.ErrZone
	}
	return z, api.OK
}

// linesOf returns the lines of the component of o, which is valid.
func linesOf(o Observance) []line.Line {
	from, _ := value.Offset(o.From)
	to, _ := value.Offset(o.To)
	list := []line.Line{
		{Name: startName, Value: timeText(o.Start)},
		{Name: fromName, Value: from},
		{Name: toName, Value: to},
	}
	if o.Again {
		text, _ := recur.Print(o.Rule)
		list = append(list, line.Line{Name: ruleName, Value: text})
	}
	for _, at := range o.More {
		list = append(list, line.Line{Name: moreName, Value: timeText(at)})
	}
	return list
}

// timeText returns the text of valid local seconds.
func timeText(at int64) string {
	text, _ := value.Time(api.Time{Kind: localKind, At: at})
	return text
}

// read returns the zone of the component, and whether it has the form of one; the zone need not be valid.
func read(t tree.Tree) (Zone, bool) {
	if t.Name != zoneName || !isOnce(t, nameName) {
		return Zone{}, false
	}
	var z Zone
	for _, l := range t.Lines {
		if l.Name == nameName {
			z.Name = strings.Clone(l.Value)
		} else if !ignored(l.Name) {
			return Zone{}, false
		}
	}
	for _, kid := range t.Kids {
		o, ok := readObservance(kid)
		if !ok {
			return Zone{}, false
		}
		z.L = append(z.L, o)
	}
	return z, true
}

// readObservance returns the observance of the component, and whether it has the form of one.
func readObservance(t tree.Tree) (Observance, bool) {
	_, rules := tree.Find(t, ruleName)
	if t.Name != standardName && t.Name != daylightName || len(t.Kids) > 0 || rules > 1 ||
		!isOnce(t, startName) || !isOnce(t, fromName) || !isOnce(t, toName) {
		return Observance{}, false
	}
	var o Observance
	for _, l := range t.Lines {
		if e := take(&o, l); e != api.OK {
			return Observance{}, false
		}
	}
	return o, true
}

// take puts into o what the line says.
func take(o *Observance, l line.Line) api.Errno {
	var e api.Errno
	switch l.Name {
	case startName:
		o.Start, e = readTime(l)
	case fromName:
		o.From, e = value.ParseOffset(l.Value)
	case toName:
		o.To, e = value.ParseOffset(l.Value)
	case ruleName:
		o.Again = true
		o.Rule, e = recur.Parse(l.Value)
	case moreName:
		var at int64
		at, e = readTime(l)
		o.More = append(o.More, at)
	default:
		if !ignored(l.Name) {
			e = api.ErrZone
		}
	}
	return e
}

// readTime returns the local seconds that the line has as its value.
func readTime(l line.Line) (int64, api.Errno) {
	t, e := value.ParseTime(l.Value, "", false)
	if e == api.OK && (t.Kind != localKind || len(l.Params) > 0) {
		e = api.ErrZone
	}
	return t.At, e
}

// isOnce reports whether t has one line with that name.
func isOnce(t tree.Tree, name string) bool {
	_, n := tree.Find(t, name)
	return n == 1
}

// ignored reports whether lines with that name are.
func ignored(name string) bool {
	switch name {
	case "TZNAME", "COMMENT", "LAST-MODIFIED", "TZURL":
		return true
	}
	return strings.HasPrefix(name, "X-")
}
