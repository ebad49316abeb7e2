package line_test

import (
	"math/rand"
	"regexp"
	"slices"
	"strings"
	"testing"
	"unsafe"

	"tryst/api"
	"tryst/escape"
	"tryst/line"
)

func checkParse(t *testing.T, s string, want line.Line) {
	t.Helper()
	if l, n, e := line.Parse(s); show(l) != show(want) || n != 0 || e != api.OK {
		t.Errorf("Parse(%.300q) = %.300q, %d, %v, want %.300q, 0, OK", s, l, n, e, want)
	}
}

func checkNoParse(t *testing.T, s string, position int, want api.Errno) {
	t.Helper()
	if l, n, e := line.Parse(s); show(l) != show(line.Line{}) || n != position || e != want {
		t.Errorf("Parse(%.300q) = %.300q, %d, %v, want no line, %d, %v", s, l, n, e, position, want)
	}
}

// checkBack checks P10.3, and that what is read is written and read unchanged unless it is too long.
func checkBack(t *testing.T, l line.Line) {
	t.Helper()
	if !line.Formed(l) {
		t.Errorf("Formed(%.300q) = false", l)
	}
	s, e := line.Print(l)
	if e == api.ErrLong {
		return
	}
	if e != api.OK {
		t.Errorf("Print(%.300q) = %v", l, e)
	}
	checkParse(t, s, l)
}

// The other way: after each byte, regular expressions tell whether what has been read begins a line, and
// which part of it has just come to its end. Names may be of any length there.

const (
	aName   = `[A-Za-z0-9-]+`
	aValue  = `(?:"[^"]*"|[^",;:]*)`
	aParam  = `;` + aName + `=` + aValue + `(?:,` + aValue + `)*`
	allHead = `\A` + aName + `(?:` + aParam + `)*`
)

var (
	begun      = regexp.MustCompile(`(?s)\A\z|` + allHead + `(?:;(?:` + aName + `)?|;` + aName + `=(?:` + aValue + `,)*"[^"]*|:.*)?\z`)
	whole      = regexp.MustCompile(`(?s)` + allHead + `:(.*)\z`)
	head       = regexp.MustCompile(allHead)
	afterName  = regexp.MustCompile(allHead + `;(` + aName + `)=\z`)
	afterQuote = regexp.MustCompile(allHead + `;` + aName + `=(?:` + aValue + `,)*("[^"]*")\z`)
	afterBare  = regexp.MustCompile(allHead + `;` + aName + `=(?:` + aValue + `,)*([^",;:]*)[,;:]\z`)
	afterComma = regexp.MustCompile(allHead + `;(` + aName + `)=((?:` + aValue + `,)+)\z`)
	param      = regexp.MustCompile(`;(` + aName + `)=(` + aValue + `(?:,` + aValue + `)*)`)
	value      = regexp.MustCompile(`(` + aValue + `),`)
	control    = regexp.MustCompile(`[\x00-\x08\x0a-\x1f\x7f]`)
)

// wantParams returns the parameters at the beginning of s, behind its name.
func wantParams(s string) []line.Param {
	var params []line.Param
	for _, m := range param.FindAllStringSubmatch(head.FindString(s), -1) {
		p := line.Param{Name: strings.ToUpper(m[1])}
		for _, v := range value.FindAllStringSubmatch(m[2]+",", -1) {
			read, _ := escape.Value(v[1])
			p.Values = append(p.Values, read)
		}
		params = append(params, p)
	}
	return params
}

// wantFault returns the error that the last byte of s brings, with its position.
func wantFault(s string) (int, api.Errno) {
	if !begun.MatchString(s) {
		return len(s) - 1, api.ErrSyntax
	}
	for _, after := range []*regexp.Regexp{afterQuote, afterBare} {
		if m := after.FindStringSubmatchIndex(s); m != nil {
			if _, e := escape.Value(s[m[2]:m[3]]); e != api.OK {
				return m[2], api.ErrValue
			}
		}
	}
	if m := afterName.FindStringSubmatchIndex(s); m != nil {
		params := wantParams(s[:m[2]-1])
		same := func(p line.Param) bool { return p.Name == strings.ToUpper(s[m[2]:m[3]]) }
		if len(params) >= api.MaxList || slices.ContainsFunc(params, same) {
			return m[2], api.ErrMany
		}
	}
	if m := afterComma.FindStringSubmatchIndex(s); m != nil {
		if len(value.FindAllString(s[m[4]:m[5]], -1)) >= api.MaxList {
			return m[2], api.ErrMany
		}
	}
	return 0, api.OK
}

func wantParse(s string) (line.Line, int, api.Errno) {
	if len(s) > api.MaxLine {
		return line.Line{}, 0, api.ErrLong
	}
	if string([]rune(s)) != s {
		return line.Line{}, 0, api.ErrUTF
	}
	m := whole.FindStringSubmatchIndex(s)
	read := len(s)
	if m != nil {
		read = m[2]
	}
	for i := range read {
		if n, e := wantFault(s[:i+1]); e != api.OK {
			return line.Line{}, n, e
		}
	}
	if m == nil {
		return line.Line{}, len(s), api.ErrSyntax
	}
	if control.MatchString(s[m[2]:]) {
		return line.Line{}, m[2], api.ErrValue
	}
	name, _, _ := strings.Cut(s[:m[2]-1], ";")
	return line.Line{Name: strings.ToUpper(name), Params: wantParams(s), Value: s[m[2]:]}, 0, api.OK
}

// checkAny holds Parse against its other way.
func checkAny(t *testing.T, s string) {
	t.Helper()
	want, n, e := wantParse(s)
	if e != api.OK {
		checkNoParse(t, s, n, e)
		return
	}
	checkParse(t, s, want)
	checkBack(t, want)
}

// P10.2: what is read

func TestParseExample(t *testing.T) {
	checkParse(t, "dtstart;tzid=Oslo:20261115T090000", of("DTSTART", "20261115T090000", with("TZID", "Oslo")))
}

func TestParseNames(t *testing.T) {
	for _, c := range []struct{ read, name string }{
		{"a", "A"}, {"z", "Z"}, {"abcdefghijklmnopqrstuvwxyz", "ABCDEFGHIJKLMNOPQRSTUVWXYZ"}, {"DtStArT", "DTSTART"}, {"x-a1", "X-A1"}, {"-", "-"}, {"0123456789", "0123456789"}, {"-a-", "-A-"},
		{strings.Repeat("a", api.MaxName), strings.Repeat("A", api.MaxName)}, {strings.Repeat("Z", api.MaxName), strings.Repeat("Z", api.MaxName)},
	} {
		checkParse(t, c.read+":v", of(c.name, "v"))
		checkParse(t, c.name+":v", of(c.name, "v"))
		checkParse(t, "Q;"+c.read+"=w:v", of("Q", "v", with(c.name, "w")))
		checkParse(t, "Q;P=x;"+c.read+"=w;y=:v", of("Q", "v", with("P", "x"), with(c.name, "w"), with("Y", "")))
		checkParse(t, c.read+";"+c.read+"=w:v", of(c.name, "v", with(c.name, "w")))
	}
	// Only the names are read in upper case.
	checkParse(t, "a;b=c,\"D\":eF", of("A", "eF", with("B", "c", "D")))
}

func TestParseEmptyValues(t *testing.T) {
	checkParse(t, "A:", of("A", ""))
	checkParse(t, "A;B=:", of("A", "", with("B", "")))
	checkParse(t, "A;B=,:", of("A", "", with("B", "", "")))
	checkParse(t, "A;B=,c,:", of("A", "", with("B", "", "c", "")))
	checkParse(t, "A;B=c,,d:", of("A", "", with("B", "c", "", "d")))
	checkParse(t, "A;B=;C=;D=,:", of("A", "", with("B", ""), with("C", ""), with("D", "", "")))
	checkParse(t, `A;B="":`, of("A", "", with("B", "")))
	checkParse(t, `A;B="","":`, of("A", "", with("B", "", "")))
	checkParse(t, `A;B=,"",:`, of("A", "", with("B", "", "", "")))
	checkParse(t, `A;B="";C="":v`, of("A", "v", with("B", ""), with("C", "")))
}

func TestParseParamValues(t *testing.T) {
	for _, c := range []struct{ written, value string }{
		{"a", "a"}, {"a b", "a b"}, {" ", " "}, {"\t", "\t"}, {"=", "="}, {"a=b", "a=b"}, {"'", "'"}, {`\n`, `\n`}, {`\`, `\`}, {"é€😀", "é€😀"},
		{`"a"`, "a"}, {`":"`, ":"}, {`";"`, ";"}, {`","`, ","}, {`"a:b;c,d=e"`, "a:b;c,d=e"}, {`" "`, " "}, {"\"\t\"", "\t"}, {`";X=y:"`, ";X=y:"},
		{"^n", "\n"}, {"^'", `"`}, {"^^", "^"}, {"^", "^"}, {"^x", "^x"}, {"^N", "^N"}, {"^^n", "^n"}, {"a^", "a^"},
		{`"^n"`, "\n"}, {`"^'"`, `"`}, {`"^"`, "^"}, {`"^^"`, "^"}, {`"^:"`, "^:"}, {`"a^'b:c^'"`, `a"b:c"`},
	} {
		checkParse(t, "A;B="+c.written+":v", of("A", "v", with("B", c.value)))
		checkParse(t, "A;B="+c.written+",x:v", of("A", "v", with("B", c.value, "x")))
		checkParse(t, "A;B=x,"+c.written+":v", of("A", "v", with("B", "x", c.value)))
		checkParse(t, "A;B="+c.written+";C="+c.written+","+c.written+":", of("A", "", with("B", c.value), with("C", c.value, c.value)))
		checkBack(t, of("A", "v", with("B", c.value)))
	}
}

// TestParseRest tries values of the line: all that is behind the first colon outside quotes.
func TestParseRest(t *testing.T) {
	for _, s := range []string{"", ":", "::", ";", ";B=c", ";B=c:d", ",", "=", `"`, `"a`, `a"b`, `"a"`, "^n", "^", `\n`, `\,`, " ", "\t", " a ", "é€😀", "b:c;d,e=f"} {
		checkParse(t, "A:"+s, of("A", s))
		checkParse(t, "A;B=c:"+s, of("A", s, with("B", "c")))
		checkParse(t, `A;B="c:d":`+s, of("A", s, with("B", "c:d")))
	}
}

func TestParseWide(t *testing.T) {
	for _, c := range wide() {
		for _, s := range []string{c, "a" + c, c + "a", c + c} {
			checkParse(t, "A;B="+s+",\""+s+":\":"+s, of("A", s, with("B", s, s+":")))
		}
		// A name has none of them, also not by a change of its letters.
		checkNoParse(t, c+":v", 0, api.ErrSyntax)
		checkNoParse(t, "AB"+c+":v", 2, api.ErrSyntax)
		checkNoParse(t, "AB;"+c+"=w:v", 3, api.ErrSyntax)
		checkNoParse(t, "AB;C"+c+"=w:v", 4, api.ErrSyntax)
		checkNoParse(t, "AB;C=\"d\""+c+":v", 8, api.ErrSyntax)
	}
}

// P10.2: each error at each place

// TestParseTooEarly ends a line after each of its bytes.
func TestParseTooEarly(t *testing.T) {
	for _, s := range []string{"ABC;DE=fg,h,,\"i:j\",\"\";K=\"l\";M=:", "A;B=:", "A:", "A;B=é,\"€\":", "LAST-MODIFIED:"} {
		for i := range len(s) {
			// A text that ends within a code point is not UTF-8.
			if string([]rune(s[:i])) == s[:i] {
				checkNoParse(t, s[:i], i, api.ErrSyntax)
			}
		}
		if _, n, e := line.Parse(s); n != 0 || e != api.OK {
			t.Errorf("Parse(%q) = %d, %v", s, n, e)
		}
	}
	checkNoParse(t, "", 0, api.ErrSyntax)
	checkNoParse(t, strings.Repeat("A", api.MaxName), api.MaxName, api.ErrSyntax)
	checkNoParse(t, `A;B="`, 5, api.ErrSyntax)
	checkNoParse(t, `A;B="c:d`, 8, api.ErrSyntax)
	checkNoParse(t, `A;B="c;D=e:f`, 12, api.ErrSyntax)
	checkNoParse(t, `A;B=c,"d:e`, 10, api.ErrSyntax)
	checkNoParse(t, `A;B="c","`, 9, api.ErrSyntax)
	checkNoParse(t, `A;B="c","d^`, 11, api.ErrSyntax)
	checkNoParse(t, "A;B=\""+strings.Repeat("x", api.MaxLine-5), api.MaxLine, api.ErrSyntax)
}

// TestParseEachByte puts each byte at each place where not all of them can continue a line.
func TestParseEachByte(t *testing.T) {
	const name = "ABCDEFGHIJKLMNOPQRSTUVWXYZabcdefghijklmnopqrstuvwxyz0123456789-"
	for i := range 128 {
		s := string([]byte{byte(i)})
		for _, c := range []struct{ before, allowed string }{
			{"", name}, {"A", name + ";:"}, {"A;", name}, {"A;B", name + "="}, {"A;B=c;", name}, {"A;B=c;D", name + "="},
			{`A;B="c"`, ",;:"}, {`A;B=c,"d"`, ",;:"}, {`A;B=""`, ",;:"}, {`A;B="";C="d"`, ",;:"},
			{strings.Repeat("A", api.MaxName), ";:"}, {"A;" + strings.Repeat("b", api.MaxName), "="},
		} {
			if !strings.Contains(c.allowed, s) {
				for _, rest := range []string{"", ":", ";X=y:z", "A", "\""} {
					checkNoParse(t, c.before+s+rest, len(c.before), api.ErrSyntax)
				}
				continue
			}
			// It continues a line: what comes too early is the end.
			if s != ":" {
				checkNoParse(t, c.before+s, len(c.before)+1, api.ErrSyntax)
			} else if _, n, e := line.Parse(c.before + s); n != 0 || e != api.OK {
				t.Errorf("Parse(%q) = %d, %v", c.before+s, n, e)
			}
		}
	}
}

func TestParseQuotes(t *testing.T) {
	// A " within a value without quotes.
	checkNoParse(t, `A;B=c"d:e`, 5, api.ErrSyntax)
	checkNoParse(t, `A;B=c":e`, 5, api.ErrSyntax)
	checkNoParse(t, `A;B=c"d":e`, 5, api.ErrSyntax)
	checkNoParse(t, `A;B= "d":e`, 5, api.ErrSyntax)
	checkNoParse(t, `A;B=^":e`, 5, api.ErrSyntax)
	checkNoParse(t, `A;B=é":e`, 6, api.ErrSyntax)
	checkNoParse(t, `A;B=c,d"`, 7, api.ErrSyntax)
	checkNoParse(t, `A;B=c;D=e"f":g`, 9, api.ErrSyntax)
	// Bytes right behind a value in ".
	checkNoParse(t, `A;B="c"d:e`, 7, api.ErrSyntax)
	checkNoParse(t, `A;B="c""d":e`, 7, api.ErrSyntax)
	checkNoParse(t, `A;B="""":e`, 6, api.ErrSyntax)
	checkNoParse(t, `A;B=""":e`, 6, api.ErrSyntax)
	checkNoParse(t, `A;B="c" :e`, 7, api.ErrSyntax)
	checkNoParse(t, `A;B="c"=:e`, 7, api.ErrSyntax)
	checkNoParse(t, `A;B="c,d"e,f:g`, 9, api.ErrSyntax)
	checkNoParse(t, `A;B=c,"d"é:g`, 9, api.ErrSyntax)
	// A ^ does not escape the " at the end.
	checkParse(t, `A;B="c^":e`, of("A", "e", with("B", "c^")))
	checkNoParse(t, `A;B="c^"d":e`, 8, api.ErrSyntax)
}

// TestParseControls puts each byte that is forbidden in the values, where it is an error of the value.
func TestParseControls(t *testing.T) {
	for i := range 128 {
		c := byte(i)
		if !forbidden(c) {
			continue
		}
		for _, around := range [][2]string{{"", ""}, {"a", ""}, {"", "b"}, {"é", "^n"}, {"\t", " "}} {
			s := around[0] + string([]byte{c}) + around[1]
			for _, rest := range []string{":v", ",x:v", ";C=d:v", ":", ";B=:", ",\x01:\x01"} {
				checkNoParse(t, "A;B="+s+rest, 4, api.ErrValue)
				checkNoParse(t, `A;B=":`+s+`"`+rest, 4, api.ErrValue)
				checkNoParse(t, "A;B=x,y,"+s+rest, 8, api.ErrValue)
				checkNoParse(t, `A;B="x",y,"`+s+`"`+rest, 10, api.ErrValue)
				checkNoParse(t, "A;D=x;E=y;B="+s+rest, 12, api.ErrValue)
			}
			checkNoParse(t, "A:"+s, 2, api.ErrValue)
			checkNoParse(t, "AB:x:y;z"+s, 3, api.ErrValue)
			checkNoParse(t, "A;B=c:"+s, 6, api.ErrValue)
			checkNoParse(t, `A;B=é,":":`+s, 11, api.ErrValue)
		}
	}
}

func TestParseSameNames(t *testing.T) {
	checkNoParse(t, "A;B=c;B=d:e", 6, api.ErrMany)
	checkNoParse(t, "A;B=c;B=c:e", 6, api.ErrMany)
	checkNoParse(t, "A;B=c;b=d:e", 6, api.ErrMany)
	checkNoParse(t, "A;b=c;B=d:e", 6, api.ErrMany)
	checkNoParse(t, "A;b=c;b=d:e", 6, api.ErrMany)
	checkNoParse(t, "a;tzid=c;TzId=d:e", 9, api.ErrMany)
	checkNoParse(t, "A;B=c;D=e;B=f:g", 10, api.ErrMany)
	checkNoParse(t, "A;B=c;D=e;d=f:g", 10, api.ErrMany)
	checkNoParse(t, `A;B="c;D=e";D=f;D=g:h`, 16, api.ErrMany)
	checkNoParse(t, "A;B=é;B=d:e", 7, api.ErrMany)
	// What is in a value is no name, and the name of the line is not that of a parameter.
	checkParse(t, `A;B=";C=",C=;C=d;A=e:;B=f;B=g`, of("A", ";B=f;B=g", with("B", ";C=", "C="), with("C", "d"), with("A", "e")))
	checkParse(t, "A;B=c;BB=c;B-=c;B1=c:d", of("A", "d", with("B", "c"), with("BB", "c"), with("B-", "c"), with("B1", "c")))
	// The error occurs at the =.
	checkNoParse(t, "A;B=c;B", 7, api.ErrSyntax)
	checkNoParse(t, "A;B=c;B:d", 7, api.ErrSyntax)
	checkNoParse(t, "A;B=c;B;D=e:f", 7, api.ErrSyntax)
	checkNoParse(t, "A;B=c;B=", 6, api.ErrMany)
	checkNoParse(t, "A;B=c;B=\"", 6, api.ErrMany)
	checkNoParse(t, "A;B=c;B=\x01:", 6, api.ErrMany)
	long := strings.Repeat("B", api.MaxName)
	checkNoParse(t, "A;"+long+"=c;"+long+"=d:e", len(long)+5, api.ErrMany)
	checkNoParse(t, "A;"+long+"=c;"+long+"B=d:e", 2*len(long)+5, api.ErrSyntax)
}

func TestParseNumberOfParams(t *testing.T) {
	for _, n := range []int{1, 2, api.MaxList - 1, api.MaxList} {
		params := many(n)
		s := "a"
		for _, p := range params {
			s += ";" + strings.ToLower(p.Name) + "=v"
		}
		checkParse(t, s+":w", of("A", "w", params...))
		if n < api.MaxList {
			continue
		}
		checkNoParse(t, s+";X=y:w", len(s)+1, api.ErrMany)
		checkNoParse(t, s+";X=", len(s)+1, api.ErrMany)
		checkNoParse(t, s+";p0=y:w", len(s)+1, api.ErrMany)
		checkNoParse(t, s+";X=y;Y=z:w", len(s)+1, api.ErrMany)
		checkNoParse(t, s+";XY=\x01;\xc3\xa9", len(s)+1, api.ErrMany)
		// The error occurs at the =.
		checkNoParse(t, s+";", len(s)+1, api.ErrSyntax)
		checkNoParse(t, s+";XY", len(s)+3, api.ErrSyntax)
		checkNoParse(t, s+";XY:w", len(s)+3, api.ErrSyntax)
		checkNoParse(t, s+";=", len(s)+1, api.ErrSyntax)
	}
}

func TestParseNumberOfValues(t *testing.T) {
	for _, value := range []string{"v", "", `"w"`, `","`} {
		read, _ := escape.Value(value)
		for _, n := range []int{1, 2, api.MaxList - 1, api.MaxList} {
			s := strings.Join(slices.Repeat([]string{value}, n), ",")
			values := slices.Repeat([]string{read}, n)
			checkParse(t, "A;B="+s+":c", of("A", "c", with("B", values...)))
			checkParse(t, "A;D=e,f;B="+s+";G="+s+":c", of("A", "c", with("D", "e", "f"), with("B", values...), with("G", values...)))
			if n < api.MaxList {
				continue
			}
			for _, rest := range []string{"", ":", ":c", "x:c", ",:c", ",,", "\x01", "\"", "x\"", ";B=c:"} {
				checkNoParse(t, "A;B="+s+","+rest, 2, api.ErrMany)
				checkNoParse(t, "A;D=e,f;GH="+s+","+rest, 8, api.ErrMany)
			}
			// Up to that comma other errors occur first.
			checkNoParse(t, "A;B="+s, len(s)+4, api.ErrSyntax)
			if value == "v" {
				checkNoParse(t, "A;B=\x01"+s+",", 4, api.ErrValue)
				checkNoParse(t, "A;B="+s+"\x01,", len(s)+3, api.ErrValue)
				checkNoParse(t, "A;B="+s+"\",", len(s)+4, api.ErrSyntax)
			}
		}
	}
}

func TestParseLongNames(t *testing.T) {
	long := strings.Repeat("a", api.MaxName)
	for _, c := range []string{"a", "A", "0", "-"} {
		checkNoParse(t, long+c+":v", api.MaxName, api.ErrSyntax)
		checkNoParse(t, long+c, api.MaxName, api.ErrSyntax)
		checkNoParse(t, long+strings.Repeat(c, 20)+":v", api.MaxName, api.ErrSyntax)
		checkNoParse(t, "A;"+long+c+"=w:v", api.MaxName+2, api.ErrSyntax)
		checkNoParse(t, "A;B=c;"+long+c+"=w:v", api.MaxName+6, api.ErrSyntax)
	}
	checkParse(t, long+":v", of(strings.ToUpper(long), "v"))
	checkParse(t, "A;"+long+"=w:v", of("A", "v", with(strings.ToUpper(long), "w")))
}

func TestParseLength(t *testing.T) {
	for _, c := range []struct{ before, after string }{{"A:", ""}, {"A;B=", ":"}, {`A;B="`, `":`}, {"A;B=c,", ";D=:e"}, {"A;B=é:", "é"}} {
		fill := strings.Repeat("x", api.MaxLine-len(c.before)-len(c.after))
		l, n, e := line.Parse(c.before + fill + c.after)
		if s, _ := line.Print(l); n != 0 || e != api.OK || len(strings.ReplaceAll(s, `"`, "")) != len(strings.ReplaceAll(c.before+fill+c.after, `"`, "")) {
			t.Errorf("a text of %d bytes with %q: %d, %v", api.MaxLine, c.before, n, e)
		}
		checkNoParse(t, c.before+fill+"x"+c.after, 0, api.ErrLong)
		checkNoParse(t, c.before+fill+"é"+c.after, 0, api.ErrLong)
	}
	for _, s := range []string{"x", ":", ";", "\x00", "\xff", "é", `"`, "A:b"} {
		checkNoParse(t, strings.Repeat(s, api.MaxLine+1), 0, api.ErrLong)
		checkNoParse(t, strings.Repeat(s, 3*api.MaxObject), 0, api.ErrLong)
	}
	checkNoParse(t, strings.Repeat("x", api.MaxLine), api.MaxName, api.ErrSyntax)
	checkNoParse(t, strings.Repeat(":", api.MaxLine), 0, api.ErrSyntax)
}

// TestParseBroken puts bytes that belong to no valid code point at each place of lines, of which some
// have other errors, too.
func TestParseBroken(t *testing.T) {
	for _, c := range broken() {
		for _, s := range []string{"", "A", "AB;CD=e,\"f:g\",;H=i:j", ":", "A;B=c;B=d:e", "A:\x01", "A;B=\x01:c", "A;B=\"c", "\x00"} {
			for i := range len(s) + 1 {
				checkNoParse(t, s[:i]+c+s[i:], 0, api.ErrUTF)
			}
		}
		checkNoParse(t, strings.Repeat("x", api.MaxLine-len(c))+c, 0, api.ErrUTF)
		checkNoParse(t, c+strings.Repeat("x", api.MaxLine-len(c)), 0, api.ErrUTF)
		checkNoParse(t, strings.Repeat("x", api.MaxLine+1-len(c))+c, 0, api.ErrLong)
	}
	// Within a code point.
	for _, c := range wide() {
		for cut := 1; cut < len(c); cut++ {
			for _, mark := range []string{":", ";", ",", "=", `"`, "A"} {
				checkNoParse(t, "A;B="+c[:cut]+mark+c[cut:]+":v", 0, api.ErrUTF)
				checkNoParse(t, "A:"+c[:cut]+mark+c[cut:], 0, api.ErrUTF)
			}
		}
	}
}

// TestParseOrderOfErrors has lines with several errors: the first one that occurs counts.
func TestParseOrderOfErrors(t *testing.T) {
	for _, c := range []struct {
		s        string
		position int
		errno    api.Errno
	}{
		// A value is seen by layer 9 at its end: an error within it comes first, one behind it later.
		{"A;B=\x01\"c:d", 5, api.ErrSyntax},
		{"A;B=\x01", 5, api.ErrSyntax},
		{"A;B=\x01c", 6, api.ErrSyntax},
		{"A;B=\"\x01", 6, api.ErrSyntax},
		{"A;B=\"\x01:c", 8, api.ErrSyntax},
		{"A;B=\"\x01\"", 4, api.ErrValue},
		{"A;B=\"\x01\"c:d", 4, api.ErrValue},
		{"A;B=\"\x01\"\"", 4, api.ErrValue},
		{"A;B=\x01,", 4, api.ErrValue},
		{"A;B=\x01;", 4, api.ErrValue},
		{"A;B=\x01:", 4, api.ErrValue},
		{"A;B=\x01,c\"d:e", 4, api.ErrValue},
		{"A;B=c\"d,\x01:e", 5, api.ErrSyntax},
		{"A;B=c,\x01,\x02:e", 6, api.ErrValue},
		// Names and values.
		{"a b;C=\x01:\x01", 1, api.ErrSyntax},
		{"A;B=\x01;B=c:d", 4, api.ErrValue},
		{"A;B=c;B=\x01:d", 6, api.ErrMany},
		{"A;B=c;B=\"d", 6, api.ErrMany},
		{"A;B=c;D:e;B=f", 7, api.ErrSyntax},
		{"A;B=c;B=d;=e:f", 6, api.ErrMany},
		{"A;B=c;=d;B=e:f", 6, api.ErrSyntax},
		{"A;B=c;D=e;D=f;B=g:h", 10, api.ErrMany},
		{"A;B=c;D=\x01;B=g:h", 8, api.ErrValue},
		// The value of the line comes last.
		{"A;B=c\"d:\x01", 5, api.ErrSyntax},
		{"A;B=\x01:\x01", 4, api.ErrValue},
		{"A;B=c;B=d:\x01", 6, api.ErrMany},
		{"A;B=c:\x01", 6, api.ErrValue},
		{"A;B=c\x01:\x7f", 4, api.ErrValue},
		{"A\x01:\x01", 1, api.ErrSyntax},
		{"\x01:\x01", 0, api.ErrSyntax},
		{"A;\x01=b:c", 2, api.ErrSyntax},
		{"A;B\x01=b:c", 3, api.ErrSyntax},
	} {
		checkNoParse(t, c.s, c.position, c.errno)
	}
}

// P10.2 and P10.3 at once

// TestParseEachShortText tries all texts of a few of the bytes that matter, from the beginning of a line,
// of a parameter and of its values on.
func TestParseEachShortText(t *testing.T) {
	for _, c := range []struct {
		before, alphabet string
		length           int
	}{{"", "Ab;=:\"\x01", 5}, {"A;", "aB;=,:\"", 5}, {"A;B=", "b;=,:\"\x01", 5}, {"A;B=\"", "c,:\"^'\xc3\xa9", 4}, {"A;B=c;", "b=,:\"\n\t", 4}} {
		texts := []string{c.before}
		for range c.length {
			var longer []string
			for _, s := range texts {
				for i := range len(c.alphabet) {
					longer = append(longer, s+c.alphabet[i:i+1])
				}
			}
			for _, s := range longer {
				checkAny(t, s)
			}
			if t.Failed() {
				return
			}
			texts = longer
		}
	}
}

func TestParseRandom(t *testing.T) {
	random := rand.New(rand.NewSource(102))
	names := []string{"A", "b", "TZID", "tzid", "X-1", "x-1", "-", "0"}
	values := append(wide(), "", "", "a", " b", "\t", "=", "^n", "^'", "^^", "^", "'", `""`, `"a"`, `":"`, `";,^n"`, `"é"`)
	faults := []string{"", "\x01", "\n", "\x7f", `"`, ":", ";", ",", "=", " ", "é", "^", "A"}
	pick := func(l []string) string { return l[random.Intn(len(l))] }
	for range 4000 {
		s := pick(names)
		for range random.Intn(4) {
			s += ";" + pick(names) + "=" + pick(values)
			for range random.Intn(4) {
				s += "," + pick(values)
			}
		}
		s += ":" + pick(values) + pick(values)
		checkAny(t, s)
		for range 2 {
			at := random.Intn(len(s) + 1)
			s = s[:at] + pick(faults) + s[min(at+random.Intn(2), len(s)):]
			checkAny(t, s)
		}
	}
}

func TestWrittenIsRead(t *testing.T) {
	random := rand.New(rand.NewSource(103))
	parts := append(wide(), "a", "N", "n", " ", "\t", ":", ";", ",", "=", `"`, "^", "'", `\`)
	text := func(parts []string) string {
		s := ""
		for range random.Intn(8) {
			s += parts[random.Intn(len(parts))]
		}
		return s
	}
	for range 5000 {
		l := of("X-"+strings.Repeat("A", random.Intn(9)), text(parts), many(random.Intn(5))...)
		for i := range l.Params {
			for range random.Intn(5) {
				l.Params[i].Values = append(l.Params[i].Values, text(append(parts, "\n", "\n")))
			}
		}
		checkBack(t, l)
		checkEqual(t, l, copied(l), true)
	}
}

// TestReadIsTooLong reads a text whose line is written with more bytes: each ^ that stands for itself is
// written twice.
func TestReadIsTooLong(t *testing.T) {
	value := strings.Repeat("^x", (api.MaxLine-len("A;B=:"))/2)
	l, n, e := line.Parse("A;B=" + value + ":")
	if show(l) != show(of("A", "", with("B", value))) || n != 0 || e != api.OK {
		t.Errorf("%.300q, %d, %v", l, n, e)
	}
	checkTooLong(t, l)
}

// R3

// shares reports whether two texts that are not empty have a byte of memory in common.
func shares(a, b string) bool {
	if a == "" || b == "" {
		return false
	}
	first, second := uintptr(unsafe.Pointer(unsafe.StringData(a))), uintptr(unsafe.Pointer(unsafe.StringData(b)))
	return first < second+uintptr(len(b)) && second < first+uintptr(len(a))
}

// texts returns all texts of a line.
func texts(l line.Line) []string {
	all := []string{l.Name, l.Value}
	for _, p := range l.Params {
		all = append(append(all, p.Name), p.Values...)
	}
	return all
}

// TestParseMemory fills the spare capacity of each list of a result.
func TestParseMemory(t *testing.T) {
	for _, s := range []string{"ABC:def", "ABC;DEF=ghi:jkl", "ABC;DEF=ghi,jk,\"lmn:o\",p,qrst;U=vwx;YZ=ab,cd,ef:ghi"} {
		before := strings.Clone(s)
		l, _, _ := line.Parse(s)
		again, _, _ := line.Parse(s)
		want := show(l)
		for _, text := range texts(l) {
			if shares(text, s) {
				t.Errorf("Parse(%q) shares the memory of %q", s, text)
			}
			// A text of one byte may be that of a table of the run-time library.
			for _, other := range texts(again) {
				if len(text) > 1 && shares(text, other) {
					t.Errorf("two results of Parse(%q) share the memory of %q", s, text)
				}
			}
		}
		for i := range l.Params {
			spoil(l.Params[i].Values)
			l.Params[i].Values = append(l.Params[i].Values, "more")
		}
		for i := range l.Params {
			l.Params[i].Values = l.Params[i].Values[:len(l.Params[i].Values)-1]
		}
		if show(l) != want {
			t.Errorf("the lists of Parse(%q) share memory: %q", s, l)
		}
		for i := range l.Params {
			l.Params[i].Name = "changed"
			l.Params[i].Values[0] = "changed"
		}
		if show(again) != want || s != before {
			t.Errorf("two results of Parse(%q) share memory: %q", s, again)
		}
	}
}

// spoil fills the spare capacity of a list.
func spoil(l []string) {
	spare := l[len(l):cap(l)]
	for i := range spare {
		spare[i] = "spoilt"
	}
}

// TestArguments checks that nothing changes a line, nor the spare capacity of its lists.
func TestArguments(t *testing.T) {
	for _, values := range [][]string{{"cde", "f:\n"}, {"cde"}, {"c\x01"}, {strings.Repeat("c", api.MaxLine)}, {}} {
		room := append(slices.Clone(values), "spare", "more")
		params := []line.Param{with("BCD", room[:len(values)]...), with("EFG", "h"), with("SPARE", "i")}
		params[0].Values = room[:len(values)]
		l := line.Line{Name: "ABC", Params: params[:2], Value: "xyz"}
		before, beforeRoom, beforeParams := show(l), slices.Clone(room), show(of("", "", params...))
		line.Formed(l)
		line.Equal(l, l)
		line.Equal(l, of("ABC", "xyz", params...))
		found, _ := line.Find(l, "BCD")
		text, _ := line.Print(l)
		again, _ := line.Print(l)
		if show(l) != before || !slices.Equal(room, beforeRoom) || show(of("", "", params...)) != beforeParams {
			t.Errorf("%s has become %q, with %q behind it", before, l, room)
		}
		for _, s := range texts(l) {
			if shares(s, found) || shares(s, text) {
				t.Errorf("a result for %s shares the memory of %q", before, s)
			}
		}
		if shares(text, again) {
			t.Errorf("two results of Print(%s) share memory", before)
		}
	}
}

// TestNotRetained changes a line after calls with it.
func TestNotRetained(t *testing.T) {
	l := of("A", "v", with("B", "cd"), with("E", "f"))
	text, _ := line.Print(l)
	found, _ := line.Find(l, "B")
	l.Params[0].Values[0] = "changed"
	l.Params[0].Name = "C"
	if text != "A;B=cd;E=f:v" || found != "cd" {
		t.Errorf("%q, %q", text, found)
	}
	checkNotFound(t, l, "B")
	checkPrint(t, l, "A;C=changed;E=f:v")
}

// R2: the same calls have the same results, whatever was called in between.
func TestHistory(t *testing.T) {
	for range 3 {
		checkParse(t, "A;B=c:d", of("A", "d", with("B", "c")))
		checkNoParse(t, "A;B=c;B=d:e", 6, api.ErrMany)
		checkNoParse(t, "A;B=\"c", 6, api.ErrSyntax)
		checkPrint(t, of("A", "d", with("B", "c")), "A;B=c:d")
		checkNotFormed(t, of("A", "d", with("B", "c"), with("B", "c")))
	}
}
