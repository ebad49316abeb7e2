package line_test

import (
	"fmt"
	"slices"
	"strconv"
	"strings"
	"testing"

	"tryst/api"
	"tryst/line"
)

// of returns the line with that name, value and parameters.
func of(name, value string, params ...line.Param) line.Line {
	return line.Line{Name: name, Params: params, Value: value}
}

// with returns the parameter with that name and those values.
func with(name string, values ...string) line.Param {
	return line.Param{Name: name, Values: values}
}

// many returns n parameters with names of their own, each with one value.
func many(n int) []line.Param {
	var params []line.Param
	for i := range n {
		params = append(params, with("P"+strconv.Itoa(i), "v"))
	}
	return params
}

// show writes a line so that no two different lines are written alike, but for nil and empty lists.
func show(l line.Line) string {
	return fmt.Sprintf("%q", l)
}

// wide are valid code points of two, three and four bytes: the first and the last of each width, those
// around the ones that UTF-8 leaves out, control characters and what looks like a character with a
// meaning in lines.
func wide() []string {
	return []string{
		"\u0080", "\u0085", "\u009f", "\u00a0", "é", "\u07ff",
		"\u0800", "€", "\u2028", "，", "；", "：", "＝", "＾", "＂", "Ａ", "ａ", "０", "\u212a", "\u017f", "\u0131", "\ud7ff", "\ue000", "\ufeff", "\ufffd", "\uffff",
		"\U00010000", "😀", "\U0010ffff",
	}
}

// broken are bytes that belong to no valid code point.
func broken() []string {
	return []string{
		"\x80", "\xbf", "\xc3", "\xe2", "\xf0", "\xf8", "\xfe", "\xff",
		"\xa9\xc3", "\xc3\xc3", "\xe2\x82", "\xf0\x9f\x98", "é\xa9",
		// Too many bytes for the number, surrogates, and numbers beyond the last code point.
		"\xc0\x80", "\xc0\xba", "\xc1\xbf", "\xe0\x80\x80", "\xe0\x9f\xbf", "\xf0\x80\x80\x80", "\xf0\x8f\xbf\xbf",
		"\xed\xa0\x80", "\xed\xbf\xbf", "\xf4\x90\x80\x80", "\xf5\x80\x80\x80",
	}
}

// forbidden reports whether no written line may have the byte c.
func forbidden(c byte) bool {
	return c == 127 || c < 32 && c != '\t'
}

func checkPrint(t *testing.T, l line.Line, want string) {
	t.Helper()
	if !line.Formed(l) {
		t.Errorf("Formed(%q) = false", l)
	}
	if s, e := line.Print(l); s != want || e != api.OK {
		t.Errorf("Print(%q) = %q, %v, want %q, OK", l, s, e, want)
	}
	checkParse(t, want, l)
}

// checkNotFormed checks that l is not valid.
func checkNotFormed(t *testing.T, l line.Line) {
	t.Helper()
	if line.Formed(l) {
		t.Errorf("Formed(%.300q) = true", l)
	}
	if s, e := line.Print(l); s != "" || e != api.ErrArg {
		t.Errorf("Print(%.300q) = %.300q, %v, want no text, ErrArg", l, s, e)
	}
}

// checkTooLong checks that l is valid, but has no text.
func checkTooLong(t *testing.T, l line.Line) {
	t.Helper()
	if !line.Formed(l) {
		t.Errorf("Formed(%.300q) = false", l)
	}
	if s, e := line.Print(l); s != "" || e != api.ErrLong {
		t.Errorf("Print(%.300q) = %.300q, %v, want no text, ErrLong", l, s, e)
	}
}

func checkEqual(t *testing.T, a, b line.Line, want bool) {
	t.Helper()
	if line.Equal(a, b) != want || line.Equal(b, a) != want {
		t.Errorf("Equal(%q, %q) = %v, the other way round %v, want %v", a, b, line.Equal(a, b), line.Equal(b, a), want)
	}
}

func checkFound(t *testing.T, l line.Line, name, want string) {
	t.Helper()
	if s, ok := line.Find(l, name); s != want || !ok {
		t.Errorf("Find(%q, %q) = %q, %v, want %q, true", l, name, s, ok, want)
	}
}

func checkNotFound(t *testing.T, l line.Line, name string) {
	t.Helper()
	if s, ok := line.Find(l, name); s != "" || ok {
		t.Errorf("Find(%q, %q) = %q, %v, want nothing", l, name, s, ok)
	}
}

// P10.1: Name

func checkName(t *testing.T, s string, want bool) {
	t.Helper()
	if line.Name(s) != want {
		t.Errorf("Name(%q) = %v", s, !want)
	}
	// The name of a line and of a parameter.
	if line.Formed(of(s, "v")) != want {
		t.Errorf("Formed of a line with the name %q = %v", s, !want)
	}
	if line.Formed(of("A", "v", with(s, "w"))) != want {
		t.Errorf("Formed of a line with a parameter with the name %q = %v", s, !want)
	}
}

func TestNameOrdinary(t *testing.T) {
	for _, s := range []string{"A", "Z", "0", "9", "-", "DTSTART", "X-1", "LAST-MODIFIED", "--", "-A-", "007", "1A"} {
		checkName(t, s, true)
	}
	for _, s := range []string{"", "a", "dtstart", "DTSTARt", "dTSTART", "DTsTART", " A", "A ", "A B", "A_B", "A.B", "A:", "A;B", "A=", "A\n"} {
		checkName(t, s, false)
	}
}

func TestNameEachByte(t *testing.T) {
	for i := range 256 {
		s := string([]byte{byte(i)})
		want := strings.Contains("ABCDEFGHIJKLMNOPQRSTUVWXYZ0123456789-", s)
		for _, name := range []string{s, s + s, "A" + s, s + "A", "A" + s + "Z", "0-" + s, s + strings.Repeat("A", api.MaxName-1), strings.Repeat("A", api.MaxName-1) + s} {
			checkName(t, name, want)
		}
	}
}

func TestNameWide(t *testing.T) {
	for _, s := range wide() {
		for _, name := range []string{s, "A" + s, s + "A", "A" + s + "A"} {
			checkName(t, name, false)
		}
	}
}

func TestNameLength(t *testing.T) {
	for n := range 3 * api.MaxName {
		for _, c := range []string{"A", "0", "-"} {
			checkName(t, strings.Repeat(c, n), 1 <= n && n <= api.MaxName)
		}
	}
	checkName(t, strings.Repeat("A", api.MaxObject), false)
}

// P10.1: Formed and Print

func TestPrintOrdinary(t *testing.T) {
	checkPrint(t, of("DTSTART", "20261115T090000", with("TZID", "Oslo")), "DTSTART;TZID=Oslo:20261115T090000")
	checkPrint(t, of("A", ""), "A:")
	checkPrint(t, of("A", "b"), "A:b")
	checkPrint(t, of("A", "b", with("C", "")), "A;C=:b")
	checkPrint(t, of("A", "", with("C", "")), "A;C=:")
	checkPrint(t, of("A", "b", with("C", "", "")), "A;C=,:b")
	checkPrint(t, of("A", "b", with("C", "", "", "")), "A;C=,,:b")
	checkPrint(t, of("A", "b", with("C", "d", "", "e")), "A;C=d,,e:b")
	checkPrint(t, of("A", "b", with("C", "d"), with("E", "f", "g"), with("H", "")), "A;C=d;E=f,g;H=:b")
	// The order is kept, and a value may occur twice.
	checkPrint(t, of("A", "b", with("Z", "2", "1", "2"), with("B", "1")), "A;Z=2,1,2;B=1:b")
	// A parameter may have the name of the line.
	checkPrint(t, of("A", "b", with("A", "c")), "A;A=c:b")
	checkPrint(t, of("ATTENDEE", "mailto:b@c.example", with("DELEGATED-TO", "mailto:d@e.example", "mailto:f@g.example"), with("PARTSTAT", "DELEGATED")),
		`ATTENDEE;DELEGATED-TO="mailto:d@e.example","mailto:f@g.example";PARTSTAT=DELEGATED:mailto:b@c.example`)
}

func TestPrintParamValue(t *testing.T) {
	for _, c := range []struct{ value, written string }{
		{"a", "a"}, {" a ", " a "}, {"\t", "\t"}, {"=", "="}, {"'", "'"}, {`\n`, `\n`}, {"é€😀", "é€😀"},
		{":", `":"`}, {";", `";"`}, {",", `","`}, {"a:b", `"a:b"`}, {"a;b", `"a;b"`}, {"a,b", `"a,b"`}, {":;,", `":;,"`}, {";X=y:z", `";X=y:z"`},
		{"\n", "^n"}, {`"`, "^'"}, {"^", "^^"}, {"a\nb", "a^nb"}, {`"a"`, "^'a^'"}, {"^n", "^^n"}, {"^'", "^^'"}, {"\n\n", "^n^n"},
		{`"a:b"`, `"^'a:b^'"`}, {"a,\n", `"a,^n"`}, {"^;^", `"^^;^^"`}, {"é:é", `"é:é"`},
	} {
		checkPrint(t, of("A", "v", with("B", c.value)), "A;B="+c.written+":v")
		checkPrint(t, of("A", "", with("B", "x", c.value)), "A;B=x,"+c.written+":")
		checkPrint(t, of("A", "v", with("B", c.value, "x")), "A;B="+c.written+",x:v")
		checkPrint(t, of("A", ":", with("B", "x"), with("C", c.value, c.value), with("D", "y")), "A;B=x;C="+c.written+","+c.written+";D=y::")
	}
}

func TestPrintValueUnchanged(t *testing.T) {
	for _, s := range []string{" ", "\t", "\tb\t", ":", ";", ",", `"`, "^", "=", ":;,=", `"b`, `b"`, `"b"`, "^n", "^'", "^^", `\n`, `\,`, `\`, "a,b;c:d", ";B=c:d", "é€😀", `say "yes"`, "\u0085"} {
		checkPrint(t, of("A", s), "A:"+s)
		checkPrint(t, of("A", s, with("B", "c")), "A;B=c:"+s)
	}
}

func TestFormedEachByte(t *testing.T) {
	for i := range 128 {
		c := byte(i)
		s := string([]byte{c})
		for _, text := range []string{s, s + "a", "a" + s, "a" + s + "é", "\t" + s} {
			// A line feed is escaped in a value of a parameter, but not in the value of the line.
			if forbidden(c) {
				checkNotFormed(t, of("A", text))
				checkNotFormed(t, of("A", text, with("B", "c")))
			} else {
				checkPrint(t, of("A", text), "A:"+text)
			}
			if forbidden(c) && c != '\n' {
				checkNotFormed(t, of("A", "v", with("B", text)))
				checkNotFormed(t, of("A", "v", with("B", "c", text)))
				checkNotFormed(t, of("A", "v", with("B", text, "c")))
				checkNotFormed(t, of("A", "v", with("B", "c"), with("D", "e", text, "f")))
				continue
			}
			mark := ""
			if strings.ContainsAny(text, ":;,") {
				mark = `"`
			}
			written := mark + strings.NewReplacer("\n", "^n", `"`, "^'", "^", "^^").Replace(text) + mark
			checkPrint(t, of("A", "v", with("B", text)), "A;B="+written+":v")
		}
	}
}

func TestFormedUTF(t *testing.T) {
	for _, s := range wide() {
		for _, text := range []string{s, "a" + s, s + "b", s + s} {
			checkPrint(t, of("A", text), "A:"+text)
			checkPrint(t, of("A", "v", with("B", text, text)), "A;B="+text+","+text+":v")
		}
	}
	for _, s := range broken() {
		for _, text := range []string{s, "a" + s, s + "b", "é" + s + "é"} {
			checkNotFormed(t, of("A", text))
			checkNotFormed(t, of("A", "v", with("B", text)))
			checkNotFormed(t, of("A", "v", with("B", "c", text)))
			checkNotFormed(t, of("A", "v", with("B", "c"), with("D", text, "c")))
			checkNotFormed(t, of(text, "v"))
			checkNotFormed(t, of("A", "v", with(text, "c")))
		}
	}
	// A code point in two values is no code point.
	checkNotFormed(t, of("A", "v", with("B", "\xc3", "\xa9")))
}

func TestFormedNames(t *testing.T) {
	for _, name := range []string{"", "a", "A B", "é", strings.Repeat("A", api.MaxName+1)} {
		checkNotFormed(t, of(name, "v"))
		checkNotFormed(t, of(name, "v", with("B", "c")))
		checkNotFormed(t, of("A", "v", with(name, "c")))
		checkNotFormed(t, of("A", "v", with("B", "c"), with(name, "c")))
		checkNotFormed(t, of("A", "v", with(name, "c"), with("B", "c")))
	}
	checkNotFormed(t, line.Line{})
	long := strings.Repeat("A", api.MaxName)
	checkPrint(t, of(long, "v", with(long, "c")), long+";"+long+"=c:v")
}

func TestFormedSameNames(t *testing.T) {
	checkNotFormed(t, of("A", "v", with("B", "c"), with("B", "c")))
	checkNotFormed(t, of("A", "v", with("B", "c"), with("B", "d")))
	checkNotFormed(t, of("A", "v", with("B", "c"), with("D", "e"), with("B", "f")))
	checkNotFormed(t, of("A", "v", with("D", "e"), with("B", "c"), with("B", "f")))
	checkNotFormed(t, of("A", "v", with("B", "c"), with("B", "f"), with("D", "e")))
	checkPrint(t, of("A", "v", with("B", "c"), with("BB", "c"), with("B-", "c"), with("-B", "c")), "A;B=c;BB=c;B-=c;-B=c:v")
	// The first one and the last one of as many as there may be.
	params := many(api.MaxList)
	params[api.MaxList-1].Name = params[0].Name
	checkNotFormed(t, of("A", "v", params...))
}

func TestFormedNumberOfParams(t *testing.T) {
	for _, n := range []int{0, 1, 2, api.MaxList - 1, api.MaxList} {
		want := "A"
		for _, p := range many(n) {
			want += ";" + p.Name + "=v"
		}
		checkPrint(t, of("A", "v", many(n)...), want+":v")
	}
	for _, n := range []int{api.MaxList + 1, api.MaxList + 2, 2 * api.MaxList, 1000} {
		checkNotFormed(t, of("A", "v", many(n)...))
	}
}

func TestFormedNumberOfValues(t *testing.T) {
	for _, n := range []int{1, 2, api.MaxList - 1, api.MaxList} {
		values := slices.Repeat([]string{"v"}, n)
		written := strings.Join(values, ",")
		checkPrint(t, of("A", "w", with("B", values...)), "A;B="+written+":w")
		checkPrint(t, of("A", "w", with("B", "c"), with("D", values...), with("E", values...)), "A;B=c;D="+written+";E="+written+":w")
	}
	for _, n := range []int{0, api.MaxList + 1, api.MaxList + 2, 1000} {
		for _, values := range [][]string{slices.Repeat([]string{"v"}, n), make([]string, n)} {
			checkNotFormed(t, of("A", "w", with("B", values...)))
			checkNotFormed(t, of("A", "w", with("B", "c"), with("D", values...)))
			checkNotFormed(t, of("A", "w", with("B", values...), with("D", "c")))
		}
	}
	checkNotFormed(t, of("A", "w", line.Param{Name: "B", Values: nil}))
	checkNotFormed(t, of("A", "w", line.Param{Name: "B", Values: []string{}}))
}

// TestPrintLength makes a text longer at each of its parts, by a part of one byte or more.
func TestPrintLength(t *testing.T) {
	const rest = len("A;B=:") // what is around a value
	for _, c := range []struct {
		length int
		value  string
	}{{1, "x"}, {2, "é"}, {3, "€"}, {4, "😀"}, {2, "^"}, {2, "\n"}, {2, `"`}} {
		n := (api.MaxLine - rest) / c.length
		fill := strings.Repeat("y", api.MaxLine-rest-n*c.length)
		value := strings.Repeat(c.value, n)
		l := of("A", "", with("B", value+fill))
		s, e := line.Print(l)
		if len(s) != api.MaxLine || e != api.OK {
			t.Errorf("%d bytes, %v for many %q", len(s), e, c.value)
		}
		checkParse(t, s, l)
		checkTooLong(t, of("A", "", with("B", value+fill+"y")))
		checkTooLong(t, of("A", "y", with("B", value+fill)))
		checkTooLong(t, of("AA", "", with("B", value+fill)))
		checkTooLong(t, of("A", "", with("BB", value+fill)))
		checkTooLong(t, of("A", "", with("B", "", value+fill)))
		checkTooLong(t, of("A", "", with("B", value+fill), with("C", "")))
	}
	// The quotes count.
	value := strings.Repeat(",", api.MaxLine-rest-2)
	checkPrint(t, of("A", "", with("B", value)), `A;B="`+value+`":`)
	checkTooLong(t, of("A", "", with("B", value+",")))
	checkTooLong(t, of("A", "x", with("B", value)))
	value = strings.Repeat("x", api.MaxLine-len("A:"))
	checkPrint(t, of("A", value), "A:"+value)
	checkTooLong(t, of("A", value+"x"))
	checkTooLong(t, of("AA", value))
	checkTooLong(t, of("A", strings.Repeat("x", 10*api.MaxObject)))
}

// TestPrintOrderOfErrors breaks a condition in lines whose texts would be too long, too.
func TestPrintOrderOfErrors(t *testing.T) {
	long := strings.Repeat("x", api.MaxLine)
	checkTooLong(t, of("A", long, with("B", long)))
	checkNotFormed(t, of("a", long, with("B", long)))
	checkNotFormed(t, of("A", long+"\n", with("B", long)))
	checkNotFormed(t, of("A", "\xff"+long, with("B", long)))
	checkNotFormed(t, of("A", long, with("b", long)))
	checkNotFormed(t, of("A", long, with("B")))
	checkNotFormed(t, of("A", long, with("B", long, "\x01")))
	checkNotFormed(t, of("A", long, with("B", long), with("B", long)))
	checkNotFormed(t, of("A", long, many(api.MaxList+1)...))
	// As many parameters and values as there may be, and one more.
	params := many(api.MaxList)
	for i := range params {
		params[i].Values = make([]string, api.MaxList)
	}
	checkTooLong(t, of("A", "", params...))
	params[api.MaxList-1].Values = make([]string, api.MaxList+1)
	checkNotFormed(t, of("A", "", params...))
}

// P10.1: Equal

func TestEqual(t *testing.T) {
	lines := []line.Line{
		{}, of("A", ""), of("B", ""), of("", "A"), of("A", "A"), of("a", ""), of("AA", ""), of("A", "b"), of("A", "B"), of("A", "é"), of("A", "\xff"),
		of("A", "", with("", "")), of("A", "", with("B")), of("A", "", with("B", "")), of("A", "", with("B", "", "")), of("A", "", with("C", "")), of("A", "", with("b", "")),
		of("A", "", with("B", "c")), of("A", "", with("B", "C")), of("A", "", with("B", "c", "d")), of("A", "", with("B", "d", "c")), of("A", "", with("B", "c", "d", "d")), of("A", "", with("B", "cd")), of("A", "", with("B", "c,d")), of("A", "", with("B", "d")),
		of("A", "", with("B", "c"), with("C", "d")), of("A", "", with("C", "d"), with("B", "c")), of("A", "", with("B", "d"), with("C", "c")), of("A", "", with("B", "c"), with("B", "c")), of("A", "", with("B", "c"), with("C", "d"), with("D", "e")), of("A", "", with("B", "c"), with("C", "e")), of("A", "", with("B", "c"), with("D", "d")),
		of("A", "v", with("B", "c")), of("B", "", with("B", "c")), of("A", "", with("B", "c"), with("C")),
		of("A", "v", many(api.MaxList)...), of("A", "v", many(api.MaxList+1)...),
	}
	for i, a := range lines {
		for j, b := range lines {
			checkEqual(t, a, b, i == j)
		}
		checkEqual(t, a, copied(a), true)
	}
}

// copied returns a copy of l in new memory.
func copied(l line.Line) line.Line {
	c := line.Line{Name: strings.Clone(l.Name), Value: strings.Clone(l.Value)}
	for _, p := range l.Params {
		q := line.Param{Name: strings.Clone(p.Name)}
		for _, v := range p.Values {
			q.Values = append(q.Values, strings.Clone(v))
		}
		c.Params = append(c.Params, q)
	}
	return c
}

func TestEmptyLists(t *testing.T) {
	a, b := of("A", "v"), of("A", "v")
	a.Params, b.Params = nil, []line.Param{}
	checkEqual(t, a, b, true)
	checkPrint(t, a, "A:v")
	checkPrint(t, b, "A:v")
	checkEqual(t, of("A", "v", line.Param{Name: "B"}), of("A", "v", line.Param{Name: "B", Values: []string{}}), true)
	checkEqual(t, a, of("A", "v", line.Param{}), false)
	checkEqual(t, of("A", "v", with("B")), of("A", "v", with("B", "")), false)
	checkNotFound(t, a, "B")
	checkNotFound(t, b, "B")
	checkNotFound(t, of("A", "v", line.Param{Name: "B", Values: []string{}}), "B")
}

// P10.1: Find

func TestFind(t *testing.T) {
	l := of("A", "v", with("B", "c"), with("D", "e", "f"), with("G", "", "h"), with("BB", "i"))
	checkFound(t, l, "B", "c")
	checkFound(t, l, "D", "e")
	checkFound(t, l, "G", "")
	checkFound(t, l, "BB", "i")
	for _, name := range []string{"", "A", "C", "b", "d", "BBB", "BD", "B ", "B=", "v", "c", "é"} {
		checkNotFound(t, l, name)
	}
	for i, p := range many(api.MaxList) {
		p.Values[0] = strconv.Itoa(i)
		checkFound(t, of("A", "v", p), p.Name, strconv.Itoa(i))
		checkFound(t, of("A", "v", append(many(i), p)...), p.Name, strconv.Itoa(i))
		checkNotFound(t, of("A", "v", many(i)...), p.Name)
	}
}

// TestFindNotValid asks lines that no text has.
func TestFindNotValid(t *testing.T) {
	l := of("", "\n", with("b", "x\x01"), with("B"), with("B", "y"), with("C", "1"), with("C", "2"), with("", "z"), with("é", "\xff"))
	checkFound(t, l, "b", "x\x01")
	checkNotFound(t, l, "B")
	checkFound(t, l, "C", "1")
	checkFound(t, l, "", "z")
	checkFound(t, l, "é", "\xff")
	checkNotFound(t, line.Line{}, "")
	checkNotFound(t, line.Line{}, "A")
}
