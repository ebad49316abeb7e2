package zone_test

import (
	"math/rand"
	"slices"
	"strings"
	"testing"

	"tryst/api"
	"tryst/line"
	"tryst/tree"
	"tryst/zone"
)

// written returns the text of the lines.
func written(lines ...string) string {
	return strings.Join(lines, "\r\n") + "\r\n"
}

// checkTree checks Tree by the text of the component.
func checkTree(t *testing.T, z zone.Zone, want string) {
	t.Helper()
	c, e := zone.Tree(z)
	if e != api.OK {
		t.Fatalf("Tree(%v) returns %v", z, e)
	}
	if text, e := tree.Print(c); text != want || e != api.OK {
		t.Errorf("the component is %q, %v, want %q", text, e, want)
	}
}

func TestTree(t *testing.T) {
	checkTree(t, fixed(hour), written("BEGIN:VTIMEZONE", "TZID:X", "BEGIN:STANDARD", "DTSTART:20200101T000000", "TZOFFSETFROM:+0100", "TZOFFSETTO:+0100", "END:STANDARD", "END:VTIMEZONE"))
	z := oslo()
	z.L[0].More = []int64{lastValid, firstValid, firstValid}
	z.L[0].To = -86399
	// The rule of an observance that does not recur is left out.
	z.L[1].Again, z.L[1].More, z.L[1].From = false, []int64{november}, 3661
	checkTree(t, z, written(
		"BEGIN:VTIMEZONE", "TZID:Europe/Oslo",
		"BEGIN:STANDARD", "DTSTART:19960331T020000", "TZOFFSETFROM:+0100", "TZOFFSETTO:-235959", "RRULE:FREQ=YEARLY;BYDAY=-1SU;BYMONTH=3",
		"RDATE:99991231T235959", "RDATE:00010101T000000", "RDATE:00010101T000000", "END:STANDARD",
		"BEGIN:STANDARD", "DTSTART:19961027T030000", "TZOFFSETFROM:+010101", "TZOFFSETTO:+0100", "RDATE:20261115T100000", "END:STANDARD",
		"END:VTIMEZONE"))
	z = zoneOf(yearly("20200101T000000", -1, 0, "BYMONTHDAY=-1;BYMONTH=2;WKST=SU"))
	z.Name = strings.Repeat("Abc/", 15)
	checkTree(t, z, written("BEGIN:VTIMEZONE", "TZID:"+z.Name, "BEGIN:STANDARD", "DTSTART:20200101T000000", "TZOFFSETFROM:-000001", "TZOFFSETTO:+0000",
		"RRULE:FREQ=YEARLY;BYMONTHDAY=-1;BYMONTH=2;WKST=SU", "END:STANDARD", "END:VTIMEZONE"))
}

func TestTreeOfInvalidZone(t *testing.T) {
	for _, c := range invalidZones() {
		if got, e := zone.Tree(c.z); got.Name != "" || len(got.Lines)+len(got.Kids) > 0 || e != api.ErrZone {
			t.Errorf("%s: Tree returns %v, %v", c.label, got, e)
		}
	}
}

// withoutRules returns z without the rules of observances that do not recur.
func withoutRules(z zone.Zone) zone.Zone {
	z.L = slices.Clone(z.L)
	for i := range z.L {
		if !z.L[i].Again {
			z.L[i].Rule = api.Rule{}
		}
	}
	return z
}

// checkThere checks that z comes back from its component, and from the component's text if that is short enough.
func checkThere(t *testing.T, label string, z zone.Zone) {
	t.Helper()
	c, e := zone.Tree(z)
	if e != api.OK {
		t.Fatalf("%s: Tree returns %v", label, e)
	}
	checkOf(t, label, c, withoutRules(z))
	text, e := tree.Print(c)
	if !tree.Formed(c) || e == api.ErrLong {
		return
	}
	for _, l := range strings.Split(text, "\r\n") {
		if len(l) > 75 {
			t.Errorf("%s: a line has %d bytes", label, len(l))
		}
	}
	parsed, _, f := tree.Parse(text)
	if e != api.OK || f != api.OK {
		t.Errorf("%s: the component is not printed and parsed: %v, %v", label, e, f)
	}
	checkOf(t, label, parsed, withoutRules(z))
}

// checkOf checks Of.
func checkOf(t *testing.T, label string, c tree.Tree, want zone.Zone) {
	t.Helper()
	if got, e := zone.Of(c); !zone.Equal(got, want) || e != api.OK {
		t.Errorf("%s: Of returns %v, %v, want %v", label, got, e, want)
	}
}

func TestThereAndBack(t *testing.T) {
	for _, c := range validZones() {
		checkThere(t, c.label, c.z)
	}
	// More lines than a written component may have.
	z := manyObservances(20)
	for i := range z.L {
		z.L[i].More = manyStarts(60).L[0].More
	}
	checkThere(t, "greatest", z)
	r := rand.New(rand.NewSource(162))
	for range 2000 {
		checkThere(t, "drawn", drawnZone(r))
	}
}

// A draft is the lines of a component of a zone with one observance that uses each line.
type draft struct{ zone, observance []string }

func newDraft() draft {
	return draft{
		[]string{"TZID:X"},
		[]string{"DTSTART:20260329T020000", "TZOFFSETFROM:+0100", "TZOFFSETTO:+0200", "RRULE:FREQ=YEARLY;BYMONTH=3;BYDAY=-1SU", "RDATE:20200101T000000", "RDATE:20210101T000000"},
	}
}

// draftZone is the zone of a new draft.
func draftZone() zone.Zone {
	o := yearly("20260329T020000", hour, 2*hour, "BYMONTH=3;BYDAY=-1SU")
	o.More = []int64{at("20200101T000000"), at("20210101T000000")}
	return zoneOf(o)
}

// text returns the text of the component with these names.
func (d draft) text(outer, inner string) string {
	lines := append([]string{"BEGIN:" + outer}, d.zone...)
	lines = append(append(append(lines, "BEGIN:"+inner), d.observance...), "END:"+inner, "END:"+outer)
	return written(lines...)
}

// parsed returns the component with that text.
func parsed(t *testing.T, text string) tree.Tree {
	t.Helper()
	c, n, e := tree.Parse(text)
	if e != api.OK {
		t.Fatalf("%q is not parsed: %d, %v", text, n, e)
	}
	return c
}

// checkRejected checks that Of returns ErrZone, and nothing beside it.
func checkRejected(t *testing.T, label string, c tree.Tree) {
	t.Helper()
	if z, e := zone.Of(c); z.Name != "" || len(z.L) > 0 || e != api.ErrZone {
		t.Errorf("%s: Of returns %v, %v", label, z, e)
	}
}

// replaced returns the lines with the first one of that name replaced by others, or with the others added if no line has it.
func replaced(lines []string, name string, by ...string) []string {
	i := slices.IndexFunc(lines, func(l string) bool { return strings.HasPrefix(l, name+":") })
	if i < 0 {
		return append(slices.Clone(lines), by...)
	}
	return slices.Concat(lines[:i], by, lines[i+1:])
}

func TestOf(t *testing.T) {
	checkOf(t, "standard", parsed(t, newDraft().text("VTIMEZONE", "STANDARD")), draftZone())
	checkOf(t, "daylight", parsed(t, newDraft().text("VTIMEZONE", "DAYLIGHT")), draftZone())
	checkOf(t, "small letters", parsed(t, strings.ToLower(newDraft().text("VTIMEZONE", "STANDARD")[:17])+newDraft().text("VTIMEZONE", "STANDARD")[17:]), draftZone())
	r := rand.New(rand.NewSource(2))
	for range 200 {
		d := newDraft()
		r.Shuffle(len(d.observance), func(i, j int) { d.observance[i], d.observance[j] = d.observance[j], d.observance[i] })
		// The further starts are in the order of their lines, wherever these stand.
		z := draftZone()
		z.L[0].More = nil
		for _, l := range d.observance {
			if word, ok := strings.CutPrefix(l, "RDATE:"); ok {
				z.L[0].More = append(z.L[0].More, at(word))
			}
		}
		checkOf(t, "order", parsed(t, d.text("VTIMEZONE", "STANDARD")), z)
	}
}

func TestOfWithoutOptionalLines(t *testing.T) {
	d, z := newDraft(), draftZone()
	d.observance = slices.DeleteFunc(d.observance, func(l string) bool { return strings.HasPrefix(l, "RRULE") })
	z.L[0].Again, z.L[0].Rule = false, api.Rule{}
	checkOf(t, "no rule", parsed(t, d.text("VTIMEZONE", "STANDARD")), z)
	d.observance, z.L[0].More = d.observance[:3], nil
	checkOf(t, "no rule and no further starts", parsed(t, d.text("VTIMEZONE", "STANDARD")), z)
	d, z = newDraft(), draftZone()
	d.observance, z.L[0].More = d.observance[:4], nil
	checkOf(t, "no further starts", parsed(t, d.text("VTIMEZONE", "STANDARD")), z)
}

// TestOfSeveral has the observances in the order of their components.
func TestOfSeveral(t *testing.T) {
	c := parsed(t, newDraft().text("VTIMEZONE", "STANDARD"))
	z := draftZone()
	for i := 1; i < 20; i++ {
		kid := parsed(t, newDraft().text("VTIMEZONE", []string{"DAYLIGHT", "STANDARD"}[i%2])).Kids[0]
		kid.Lines[2].Value = "+00" + string(rune('0'+i/10)) + string(rune('0'+i%10))
		c.Kids = append(c.Kids, kid)
		o := draftZone().L[0]
		o.To = i * 60
		z.L = append(z.L, o)
		checkOf(t, "several", c, z)
	}
	c.Kids = append(c.Kids, c.Kids[0])
	checkRejected(t, "21 observances", c)
	for i := range 20 {
		c, _ := zone.Tree(manyObservances(20))
		c.Kids[i].Name = "VEVENT"
		checkRejected(t, "one of another name", c)
		c, _ = zone.Tree(manyObservances(20))
		c.Kids[i].Lines = c.Kids[i].Lines[:2]
		checkRejected(t, "one without its offset", c)
	}
}

func TestNamesOfComponents(t *testing.T) {
	for _, name := range []string{"VEVENT", "VCALENDAR", "STANDARD", "DAYLIGHT", "VTIMEZONE-", "X-VTIMEZONE", "TIMEZONE"} {
		checkRejected(t, name, parsed(t, newDraft().text(name, "STANDARD")))
	}
	for _, name := range []string{"VEVENT", "VTIMEZONE", "VALARM", "X-STANDARD", "STANDARDS", "X-A"} {
		checkRejected(t, name+" within", parsed(t, newDraft().text("VTIMEZONE", name)))
		// Beside a right one.
		c := parsed(t, newDraft().text("VTIMEZONE", "STANDARD"))
		checkRejected(t, name+" behind", tree.Tree{Name: c.Name, Lines: c.Lines, Kids: []tree.Tree{c.Kids[0], {Name: name}}})
		checkRejected(t, name+" ahead", tree.Tree{Name: c.Name, Lines: c.Lines, Kids: []tree.Tree{{Name: name}, c.Kids[0]}})
		c.Kids[0].Kids = []tree.Tree{{Name: name}}
		checkRejected(t, name+" within the observance", c)
	}
	c := parsed(t, newDraft().text("VTIMEZONE", "STANDARD"))
	c.Kids[0].Kids = []tree.Tree{c.Kids[0]}
	checkRejected(t, "observance within an observance", c)
	checkRejected(t, "no observance", parsed(t, written("BEGIN:VTIMEZONE", "TZID:X", "END:VTIMEZONE")))
	checkRejected(t, "zero", tree.Tree{})
	for _, name := range []string{"", "vtimezone", "Vtimezone", "VTIMEZONE "} {
		c := parsed(t, newDraft().text("VTIMEZONE", "STANDARD"))
		c.Name = name
		checkRejected(t, name, c)
	}
}

// TestComponentWithinItself has a component that contains itself.
func TestComponentWithinItself(t *testing.T) {
	kids := []tree.Tree{parsed(t, newDraft().text("VTIMEZONE", "STANDARD")).Kids[0]}
	kids[0].Kids = kids
	checkRejected(t, "itself", tree.Tree{Name: "VTIMEZONE", Lines: []line.Line{{Name: "TZID", Value: "X"}}, Kids: kids})
}

func TestMissingAndRepeatedLines(t *testing.T) {
	d := newDraft()
	d.zone = nil
	checkRejected(t, "no TZID", parsed(t, d.text("VTIMEZONE", "STANDARD")))
	d.zone = []string{"TZID:X", "TZID:X"}
	checkRejected(t, "two TZID", parsed(t, d.text("VTIMEZONE", "STANDARD")))
	for _, name := range []string{"DTSTART", "TZOFFSETFROM", "TZOFFSETTO", "RRULE"} {
		d := newDraft()
		i := slices.IndexFunc(d.observance, func(l string) bool { return strings.HasPrefix(l, name) })
		d.observance = append(d.observance, d.observance[i])
		checkRejected(t, "two "+name, parsed(t, d.text("VTIMEZONE", "STANDARD")))
		d.observance = append(d.observance, d.observance[i])
		checkRejected(t, "three "+name, parsed(t, d.text("VTIMEZONE", "STANDARD")))
		if name == "RRULE" {
			continue
		}
		d.observance = replaced(newDraft().observance, name)
		checkRejected(t, "no "+name, parsed(t, d.text("VTIMEZONE", "STANDARD")))
	}
}

func TestOtherLines(t *testing.T) {
	for _, l := range []string{"SUMMARY:a", "UID:a", "DTEND:20260101T000000", "EXDATE:20260101T000000", "DURATION:PT1H", "TZUNTIL:20260101T000000Z", "XA:b", "X:b", "TZNAMES:b", "COMMENTS:b", "LAST-MODIFIE:b", "TZ:b", "SEQUENCE:0"} {
		d := newDraft()
		d.zone = append(d.zone, l)
		checkRejected(t, l, parsed(t, d.text("VTIMEZONE", "STANDARD")))
		d = newDraft()
		d.observance = append([]string{l}, d.observance...)
		checkRejected(t, l+" in the observance", parsed(t, d.text("VTIMEZONE", "STANDARD")))
	}
	// Lines that belong to the other component.
	d := newDraft()
	d.observance = append(d.observance, "TZID:X")
	checkRejected(t, "TZID in the observance", parsed(t, d.text("VTIMEZONE", "STANDARD")))
	for _, l := range newDraft().observance {
		d := newDraft()
		d.zone = append(d.zone, l)
		checkRejected(t, l+" in the zone", parsed(t, d.text("VTIMEZONE", "STANDARD")))
	}
	for _, name := range []string{"", "x-a", "tzname", "X", "comment"} {
		c := parsed(t, newDraft().text("VTIMEZONE", "STANDARD"))
		c.Lines = append(c.Lines, line.Line{Name: name})
		checkRejected(t, "line "+name, c)
	}
}

func TestIgnoredLines(t *testing.T) {
	list := []string{"X-A:b", "X-:", "X--:1", "X-DTSTART:1", "X-A;P=1,2;Q=\"a:b\":\t\\", "TZNAME:CET", "TZNAME;LANGUAGE=en;VALUE=x:", "COMMENT;A=b:\\,\\n", "LAST-MODIFIED:never", "LAST-MODIFIED;TZID=Oslo:20260101T000000", "TZURL:", "TZURL;A=b:http://x"}
	for _, l := range list {
		for _, n := range []int{1, 2} {
			d := newDraft()
			d.zone = append(slices.Repeat([]string{l}, n), d.zone...)
			d.observance = append(slices.Insert(d.observance, 2, l), slices.Repeat([]string{l}, n)...)
			checkOf(t, l, parsed(t, d.text("VTIMEZONE", "STANDARD")), draftZone())
		}
	}
	d := newDraft()
	d.zone, d.observance = append(d.zone, list...), append(d.observance, list...)
	checkOf(t, "all", parsed(t, d.text("VTIMEZONE", "DAYLIGHT")), draftZone())
	// Whatever they contain, also what no written line contains.
	for _, name := range []string{"X-A", "TZNAME", "COMMENT", "LAST-MODIFIED", "TZURL", "X-a b"} {
		c := parsed(t, newDraft().text("VTIMEZONE", "STANDARD"))
		l := line.Line{Name: name, Params: []line.Param{{}, {Name: "a\n", Values: []string{"\xff", ""}}, {}}, Value: "\x00\xff" + strings.Repeat("x", 3000)}
		c.Lines = append(c.Lines, l)
		c.Kids[0].Lines = append(c.Kids[0].Lines, l)
		checkOf(t, name, c, draftZone())
	}
}

func TestParameters(t *testing.T) {
	for _, parameter := range []string{"VALUE=DATE-TIME", "VALUE=DATE", "TZID=X", "TZID=UTC", "X-A=b", "A=\"\""} {
		for _, name := range []string{"DTSTART", "RDATE"} {
			d := newDraft()
			d.observance = replaced(d.observance, name, name+";"+parameter+":20260329T020000")
			checkRejected(t, name+";"+parameter, parsed(t, d.text("VTIMEZONE", "STANDARD")))
		}
		// The other lines may have parameters.
		d := newDraft()
		d.zone[0] = "TZID;" + parameter + ":X"
		for i := 1; i <= 3; i++ {
			d.observance[i] = strings.Replace(d.observance[i], ":", ";"+parameter+":", 1)
		}
		checkOf(t, "others;"+parameter, parsed(t, d.text("VTIMEZONE", "STANDARD")), draftZone())
	}
}

func TestUnreadableValues(t *testing.T) {
	times := []string{
		"", "20260329", "20260329T020000Z", "20260329T0200", "20260329T02000", "20260329T0200000", "20260329t020000", "20260329T240000", "20260229T000000", "00000101T000000", " 20260329T020000",
		"20260329T020000,20270328T020000", "20260329T020000/PT1H", "19960331T020000z", "+20260329T020000",
	}
	offsets := []string{"", "0100", "+1", "+01", "+01:00", "+01000", "+2400", "-2400", "+0160", "+010060", "-0000", "-000000", "+0100 ", "Z", "01:00", "+0a00", "3600"}
	rules := []string{
		"", "FREQ=YEARLY;", "FREQ=HOURLY", "FREQ=YEARLY;BYMONTH=13;BYDAY=1SU", "BYMONTH=3;BYDAY=1SU", "FREQ=YEARLY;BYMONTH=3;BYDAY=0SU", "FREQ=YEARLY;BYMONTH=3;BYDAY=1SU;BYMONTH=3", "FREQ=YEARLY;X=1", "-1SU",
		// Rules that a zone may not have.
		"FREQ=YEARLY", "FREQ=DAILY", "FREQ=MONTHLY;BYMONTH=3;BYDAY=-1SU", "FREQ=YEARLY;BYMONTH=3", "FREQ=YEARLY;BYMONTH=3;BYDAY=SU", "FREQ=YEARLY;BYMONTH=3,4;BYDAY=1SU", "FREQ=YEARLY;BYMONTH=3;BYDAY=1SU,2SU",
		"FREQ=YEARLY;INTERVAL=2;BYMONTH=3;BYDAY=1SU", "FREQ=YEARLY;COUNT=9;BYMONTH=3;BYDAY=1SU", "FREQ=YEARLY;UNTIL=20300101T000000Z;BYMONTH=3;BYDAY=1SU", "FREQ=YEARLY;BYMONTH=3;BYDAY=1SU;BYHOUR=2",
	}
	for name, values := range map[string][]string{"DTSTART": times, "RDATE": times, "TZOFFSETFROM": offsets, "TZOFFSETTO": offsets, "RRULE": rules} {
		for _, value := range values {
			d := newDraft()
			d.observance = replaced(d.observance, name, name+":"+value)
			checkRejected(t, name+":"+value, parsed(t, d.text("VTIMEZONE", "STANDARD")))
		}
	}
	for _, name := range []string{"", "New York", "a:b", "a,b", "a\\,b", "\"X\"", "X ", " X", "Malmö", strings.Repeat("X", 61)} {
		d := newDraft()
		d.zone[0] = "TZID:" + name
		checkRejected(t, "TZID:"+name, parsed(t, d.text("VTIMEZONE", "STANDARD")))
	}
}

// TestReadableValues has values that are read though they are not printed so.
func TestReadableValues(t *testing.T) {
	d := newDraft()
	d.observance[1], d.observance[2] = "TZOFFSETFROM:+010000", "TZOFFSETTO:+020000"
	d.observance[3] = "RRULE:byday=-01su,-1SU;interval=01;wkst=mo;bymonth=+3,03;freq=yearly"
	checkOf(t, "unusual", parsed(t, d.text("VTIMEZONE", "STANDARD")), draftZone())
	z := draftZone()
	d.zone[0], z.Name = "TZID:/_-+/"+strings.Repeat("9", 55), "/_-+/"+strings.Repeat("9", 55)
	d.observance[1], z.L[0].From = "TZOFFSETFROM:-235959", -86399
	d.observance[2], z.L[0].To = "TZOFFSETTO:+235959", 86399
	d.observance[0], z.L[0].Start = "DTSTART:00010101T000000", firstValid
	d.observance[5], z.L[0].More[1] = "RDATE:99991231T235959", lastValid
	checkOf(t, "extreme", parsed(t, d.text("VTIMEZONE", "STANDARD")), z)
}

func TestNumberOfFurtherStarts(t *testing.T) {
	for n := 57; n < 64; n++ {
		d, z := newDraft(), draftZone()
		for range n - 2 {
			d.observance = append(d.observance, "RDATE:20261115T100000")
			z.L[0].More = append(z.L[0].More, november)
		}
		c := parsed(t, d.text("VTIMEZONE", "STANDARD"))
		if n <= 60 {
			checkOf(t, "further starts", c, z)
		} else {
			checkRejected(t, "too many further starts", c)
		}
	}
}

func TestComponentIsLeftAlone(t *testing.T) {
	build := func() tree.Tree {
		d := newDraft()
		d.zone = append(d.zone, "X-A;B=c,d:e")
		c := parsed(t, d.text("VTIMEZONE", "STANDARD"))
		c.Lines = append(c.Lines, line.Line{Name: "SPARE"})[:len(c.Lines)]
		c.Kids = append(c.Kids, tree.Tree{Name: "SPARE"})[:1]
		c.Kids[0].Lines = append(c.Kids[0].Lines, line.Line{Name: "SPARE"})[:len(c.Kids[0].Lines)]
		return c
	}
	c := build()
	zone.Of(c)
	if !tree.Equal(c, build()) || c.Lines[:3][2].Name != "SPARE" || c.Kids[:2][1].Name != "SPARE" || c.Kids[0].Lines[:7][6].Name != "SPARE" {
		t.Errorf("the component is %v", c)
	}
}

func TestResultsAreNew(t *testing.T) {
	z, c := draftZone(), parsed(t, newDraft().text("VTIMEZONE", "STANDARD"))
	for range 2 {
		got, e := zone.Of(c)
		if !zone.Equal(got, z) || e != api.OK {
			t.Fatalf("Of returns %v, %v", got, e)
		}
		o := &got.L[0]
		o.Rule.Month[0], o.Rule.Day[0].Nth, o.More[0] = 9, 9, 9
		*o = zone.Observance{}
		written, e := zone.Tree(z)
		if back, f := zone.Of(written); !zone.Equal(back, z) || e != api.OK || f != api.OK {
			t.Fatalf("Tree returns %v, %v", written, e)
		}
		written.Lines[0].Value = "Y"
		for i := range written.Kids[0].Lines {
			written.Kids[0].Lines[i] = line.Line{}
		}
	}
}
