package escape_test

import (
	"math/rand"
	"regexp"
	"slices"
	"strings"
	"testing"
	"unsafe"

	"tryst/api"
	"tryst/escape"
)

// oneToOne are the functions that make a text of a text, with their other ways.
var oneToOne = []struct {
	name string
	call func(string) (string, api.Errno)
	want func(string) (string, api.Errno)
}{
	{"Text", escape.Text, wantText},
	{"Plain", escape.Plain, wantPlain},
	{"Param", escape.Param, wantParam},
	{"Value", escape.Value, wantValue},
}

// textEscapes has the backslash first, so that the escapes can be put in one after the other.
var textEscapes = []struct{ plain, written string }{{`\`, `\\`}, {";", `\;`}, {",", `\,`}, {"\n", `\n`}}

// wide are valid code points of two, three and four bytes: the first and the last of each width, those
// around the ones that UTF-8 leaves out, control characters and what looks like an escaped character.
func wide() []string {
	return []string{
		"\u0080", "\u0085", "\u009f", "\u00a0", "é", "\u07ff",
		"\u0800", "€", "\u2028", "，", "；", "：", "＼", "＾", "＂", "\ud7ff", "\ue000", "\ufeff", "\ufffd", "\uffff",
		"\U00010000", "😀", "\U0010ffff",
	}
}

// broken are bytes that belong to no valid code point.
func broken() []string {
	return []string{
		"\x80", "\xbf", "\xc3", "\xe2", "\xf0", "\xf8", "\xfe", "\xff",
		"\xa9\xc3", "\x80\x80\x80\x80\x80", "\xc3\xc3", "\xe2\x82", "\xf0\x9f", "\xf0\x9f\x98", "é\xa9", "\xe2\x82\xe2\x82",
		// Too many bytes for the number, surrogates, and numbers beyond the last code point.
		"\xc0\x80", "\xc0\xac", "\xc1\x9c", "\xc1\xbf", "\xe0\x80\x80", "\xe0\x9f\xbf", "\xf0\x80\x80\x80", "\xf0\x8f\xbf\xbf",
		"\xed\xa0\x80", "\xed\xbf\xbf", "\xf4\x90\x80\x80", "\xf5\x80\x80\x80", "\xf8\x88\x80\x80\x80",
	}
}

// forbidden reports whether neither a text nor what is written may have the byte c.
func forbidden(c byte) bool {
	return c == 127 || c < 32 && c != '\t' && c != '\n'
}

func checkWritten(t *testing.T, s, want string) {
	t.Helper()
	if x, e := escape.Text(s); x != want || e != api.OK {
		t.Errorf("Text(%q) = %q, %v, want %q, OK", s, x, e, want)
	}
	checkRead(t, want, s)
}

func checkRead(t *testing.T, s, want string) {
	t.Helper()
	if x, e := escape.Plain(s); x != want || e != api.OK {
		t.Errorf("Plain(%q) = %q, %v, want %q, OK", s, x, e, want)
	}
}

func checkList(t *testing.T, l []string, want string) {
	t.Helper()
	if x, e := escape.List(l); x != want || e != api.OK {
		t.Errorf("List(%q) = %q, %v, want %q, OK", l, x, e, want)
	}
	checkItems(t, want, l...)
}

func checkNoList(t *testing.T, l []string, want api.Errno) {
	t.Helper()
	if x, e := escape.List(l); x != "" || e != want {
		t.Errorf("List(%q) = %q, %v, want no text, %v", l, x, e, want)
	}
}

func checkItems(t *testing.T, s string, want ...string) {
	t.Helper()
	if l, e := escape.Items(s); !slices.Equal(l, want) || e != api.OK {
		t.Errorf("Items(%q) = %q, %v, want %q, OK", s, l, e, want)
	}
}

func checkNoItems(t *testing.T, s string, want api.Errno) {
	t.Helper()
	if l, e := escape.Items(s); len(l) != 0 || e != want {
		t.Errorf("Items(%q) = %q, %v, want no texts, %v", s, l, e, want)
	}
}

func checkParam(t *testing.T, s, want string) {
	t.Helper()
	if x, e := escape.Param(s); x != want || e != api.OK {
		t.Errorf("Param(%q) = %q, %v, want %q, OK", s, x, e, want)
	}
	checkValue(t, want, s)
}

func checkValue(t *testing.T, s, want string) {
	t.Helper()
	if x, e := escape.Value(s); x != want || e != api.OK {
		t.Errorf("Value(%q) = %q, %v, want %q, OK", s, x, e, want)
	}
}

// checkNone checks an error of one of the functions that make a text of a text.
func checkNone(t *testing.T, call func(string) (string, api.Errno), s string, want api.Errno) {
	t.Helper()
	if x, e := call(s); x != "" || e != want {
		t.Errorf("for %q: %q, %v, want no text, %v", s, x, e, want)
	}
}

// The other ways: regular expressions and replacements in place of loops.

var (
	invalidText    = regexp.MustCompile(`[\x00-\x08\x0b-\x1f\x7f]`)
	invalidWritten = regexp.MustCompile(`[\x00-\x08\x0a-\x1f\x7f]`)
	enclosing      = regexp.MustCompile(`\A"[^"]*"\z`)
	bare           = regexp.MustCompile(`\A[^":;,]*\z`)

	textWriter  = strings.NewReplacer(`\`, `\\`, ";", `\;`, ",", `\,`, "\n", `\n`)
	textMarker  = strings.NewReplacer(`\\`, "\x01", `\;`, "\x02", `\,`, "\x03", `\n`, "\n", `\N`, "\n")
	textReader  = strings.NewReplacer("\x01", `\`, "\x02", ";", "\x03", ",")
	paramWriter = strings.NewReplacer("\n", "^n", `"`, "^'", "^", "^^")
	paramReader = strings.NewReplacer("^n", "\n", "^'", `"`, "^^", "^")
)

func wantError(s string, invalid *regexp.Regexp) api.Errno {
	if string([]rune(s)) != s {
		return api.ErrUTF
	}
	if invalid.MatchString(s) {
		return api.ErrValue
	}
	return api.OK
}

func wantText(s string) (string, api.Errno) {
	if e := wantError(s, invalidText); e != api.OK {
		return "", e
	}
	return textWriter.Replace(s), api.OK
}

// wantTexts puts a control character in place of each escape, since there is none in s by then, so that
// all the commas that are left separate texts.
func wantTexts(s string) ([]string, api.Errno) {
	if e := wantError(s, invalidWritten); e != api.OK {
		return nil, e
	}
	s = textMarker.Replace(s)
	if strings.ContainsAny(s, `\;`) {
		return nil, api.ErrValue
	}
	texts := strings.Split(s, ",")
	for i, text := range texts {
		texts[i] = textReader.Replace(text)
	}
	return texts, api.OK
}

func wantPlain(s string) (string, api.Errno) {
	texts, e := wantTexts(s)
	if e != api.OK {
		return "", e
	}
	if len(texts) != 1 {
		return "", api.ErrValue
	}
	return texts[0], api.OK
}

func wantList(l []string) (string, api.Errno) {
	list := ""
	for i, s := range l {
		text, e := wantText(s)
		if e != api.OK {
			return "", e
		}
		if i > 0 {
			list += ","
		}
		list += text
	}
	if list == "" {
		return "", api.ErrValue
	}
	return list, api.OK
}

func wantItems(s string) ([]string, api.Errno) {
	if s == "" {
		return nil, api.ErrValue
	}
	return wantTexts(s)
}

func wantParam(s string) (string, api.Errno) {
	if e := wantError(s, invalidText); e != api.OK {
		return "", e
	}
	written := paramWriter.Replace(s)
	if !bare.MatchString(written) {
		written = `"` + written + `"`
	}
	return written, api.OK
}

func wantValue(s string) (string, api.Errno) {
	if e := wantError(s, invalidWritten); e != api.OK {
		return "", e
	}
	if !enclosing.MatchString(s) && !bare.MatchString(s) {
		return "", api.ErrValue
	}
	return paramReader.Replace(strings.Trim(s, `"`)), api.OK
}

// checkAll holds all functions against their other ways, and what is written against what is read.
func checkAll(t *testing.T, s string) {
	t.Helper()
	for _, f := range oneToOne {
		x, e := f.call(s)
		if want, errno := f.want(s); x != want || e != errno {
			t.Errorf("%s(%q) = %q, %v, want %q, %v", f.name, s, x, e, want, errno)
		}
	}
	if want, e := wantItems(s); e == api.OK {
		checkItems(t, s, want...)
	} else {
		checkNoItems(t, s, e)
	}
	checkLists(t, []string{s}, []string{s, ""}, []string{"", s}, []string{"a", s, s, "b"})
	checkBack(t, s)
}

func checkLists(t *testing.T, lists ...[]string) {
	t.Helper()
	for _, l := range lists {
		if want, e := wantList(l); e == api.OK {
			checkList(t, l, want)
		} else {
			checkNoList(t, l, e)
		}
	}
}

// checkBack checks P9.3, and that what is written has no line feed.
func checkBack(t *testing.T, s string) {
	t.Helper()
	if x, e := escape.Text(s); e == api.OK {
		checkRead(t, x, s)
		if strings.Contains(x, "\n") {
			t.Errorf("Text(%q) = %q has a line feed", s, x)
		}
	}
	if x, e := escape.Param(s); e == api.OK {
		checkValue(t, x, s)
		if strings.Contains(x, "\n") {
			t.Errorf("Param(%q) = %q has a line feed", s, x)
		}
	}
	// What is read is written and read unchanged, too, though not always as it was.
	if x, e := escape.Plain(s); e == api.OK {
		written, e := escape.Text(x)
		if e != api.OK {
			t.Errorf("Text(%q) = %v, but it was read from %q", x, e, s)
		}
		checkRead(t, written, x)
	}
	if x, e := escape.Value(s); e == api.OK {
		written, e := escape.Param(x)
		if e != api.OK {
			t.Errorf("Param(%q) = %v, but it was read from %q", x, e, s)
		}
		checkValue(t, written, x)
	}
	if l, e := escape.Items(s); e == api.OK {
		written, e := escape.List(l)
		if e != api.OK {
			t.Errorf("List(%q) = %v, but it was read from %q", l, e, s)
		}
		checkItems(t, written, l...)
	}
}

// P9.1

func TestTextExample(t *testing.T) {
	checkWritten(t, "a,b", `a\,b`)
}

func TestTextEmpty(t *testing.T) {
	checkWritten(t, "", "")
}

func TestTextOrdinary(t *testing.T) {
	for _, s := range []string{"a", "Meeting", "a b", " a ", "\t", "a\tb", "MAILTO:a@b.example", `say "yes"`, "x^y^'", "n", "N", "nN", "//", "é€😀"} {
		checkWritten(t, s, s)
	}
}

func TestTextEscapes(t *testing.T) {
	for _, a := range textEscapes {
		checkWritten(t, a.plain, a.written)
		checkWritten(t, "x"+a.plain, "x"+a.written)
		checkWritten(t, a.plain+"x", a.written+"x")
		checkWritten(t, a.plain+"n", a.written+"n")
		checkWritten(t, "é"+a.plain+"N", "é"+a.written+"N")
		for _, b := range textEscapes {
			checkWritten(t, a.plain+b.plain, a.written+b.written)
			checkWritten(t, a.plain+"x"+b.plain, a.written+"x"+b.written)
			for _, c := range textEscapes {
				checkWritten(t, a.plain+b.plain+c.plain, a.written+b.written+c.written)
			}
		}
	}
	checkWritten(t, "a,b;c\\d\ne", `a\,b\;c\\d\ne`)
	checkWritten(t, `\n`, `\\n`)
	checkWritten(t, `\,`, `\\\,`)
	checkWritten(t, "\\\n", `\\\n`)
}

func TestTextEachByte(t *testing.T) {
	for i := range 128 {
		c := byte(i)
		s := string([]byte{c})
		for _, text := range []string{s, s + "a", "a" + s, "a" + s + "é", s + s, "," + s, s + ",", "\t\n" + s} {
			if forbidden(c) {
				checkNone(t, escape.Text, text, api.ErrValue)
				continue
			}
			want := text
			for _, each := range textEscapes {
				want = strings.ReplaceAll(want, each.plain, each.written)
			}
			checkWritten(t, text, want)
		}
	}
}

func TestPlainEscapes(t *testing.T) {
	for _, c := range []struct{ written, plain string }{
		{`\n`, "\n"}, {`\N`, "\n"}, {`\\`, `\`}, {`\;`, ";"}, {`\,`, ","},
		{`a\nb`, "a\nb"}, {`a\Nb`, "a\nb"}, {`\n\N`, "\n\n"}, {`\N\n\N`, "\n\n\n"},
		{`\\n`, `\n`}, {`\\N`, `\N`}, {`\\\n`, "\\\n"}, {`\\\\n`, `\\n`}, {`\\\,`, `\,`}, {`\\\\`, `\\`}, {`\,\;`, ",;"}, {`\;\\\,\n`, ";\\,\n"},
		{`\nn`, "\nn"}, {`\Nn`, "\nn"}, {`n\\`, `n\`}, {`:\,"`, `:,"`}, {`^n\n^'`, "^n\n^'"}, {`é\,€\;😀\n`, "é,€;😀\n"},
	} {
		checkRead(t, c.written, c.plain)
	}
}

// TestPlainBackslash puts a backslash before each byte and at the end.
func TestPlainBackslash(t *testing.T) {
	means := map[byte]string{'n': "\n", 'N': "\n", '\\': `\`, ';': ";", ',': ","}
	for i := range 128 {
		c := byte(i)
		s := `\` + string([]byte{c})
		for _, around := range [][2]string{{"", ""}, {"a", ""}, {"", "b"}, {`\\`, `\n`}, {"é", "é"}} {
			written := around[0] + s + around[1]
			want, ok := means[c]
			if !ok {
				checkNone(t, escape.Plain, written, api.ErrValue)
				checkNoItems(t, written, api.ErrValue)
				continue
			}
			want = strings.ReplaceAll(around[0], `\\`, `\`) + want + strings.ReplaceAll(around[1], `\n`, "\n")
			checkRead(t, written, want)
			checkItems(t, written, want)
		}
	}
	for _, s := range append(wide(), "") {
		checkNone(t, escape.Plain, `\`+s, api.ErrValue)
		checkNone(t, escape.Plain, `a\`+s, api.ErrValue)
		checkNone(t, escape.Plain, `\\\`+s, api.ErrValue)
		checkNone(t, escape.Plain, `\,\`+s, api.ErrValue)
		checkNoItems(t, `\`+s, api.ErrValue)
		checkNoItems(t, `a,\`+s, api.ErrValue)
	}
	checkNoItems(t, `\é,a`, api.ErrValue)
}

func TestPlainUnescaped(t *testing.T) {
	for _, s := range []string{";", ",", "a;b", "a,b", ";a", ",a", "a;", "a,", ";;", ",,", `\\;`, `\\,`, `\;;`, `\,,`, `\n,`, `\n;`, "é;", ",é", ":,", ";\t"} {
		checkNone(t, escape.Plain, s, api.ErrValue)
	}
}

func TestPlainEachByte(t *testing.T) {
	for i := range 128 {
		c := byte(i)
		s := string([]byte{c})
		invalid := forbidden(c) || strings.ContainsAny(s, "\n;,")
		for _, text := range []string{s, "a" + s, "aé" + s, s + "a", "a" + s + "é", "\t" + s + ":"} {
			if invalid || c == '\\' {
				checkNone(t, escape.Plain, text, api.ErrValue)
			} else {
				checkRead(t, text, text)
			}
		}
		if invalid {
			checkNone(t, escape.Plain, `\n`+s, api.ErrValue)
			checkNone(t, escape.Plain, s+`\\`, api.ErrValue)
		}
	}
}

func TestListExample(t *testing.T) {
	checkList(t, []string{"a", "", "b,c"}, `a,,b\,c`)
}

func TestListNumbers(t *testing.T) {
	checkNoList(t, nil, api.ErrValue)
	checkNoList(t, []string{}, api.ErrValue)
	checkNoList(t, []string{""}, api.ErrValue)
	checkList(t, []string{"", ""}, ",")
	checkList(t, []string{"", "", ""}, ",,")
	checkList(t, []string{"a"}, "a")
	checkList(t, []string{"a", "b"}, "a,b")
	checkList(t, []string{"a", ""}, "a,")
	checkList(t, []string{"", "a"}, ",a")
	checkList(t, []string{"", "a", ""}, ",a,")
	checkList(t, []string{" ", "\t", "\n"}, " ,\t,\\n")
	checkList(t, []string{"WORK", "HOME", "a b", "é€😀"}, "WORK,HOME,a b,é€😀")
	// The document sets no limit to the number of texts, nor to their length.
	many := slices.Repeat([]string{"ab"}, 3*api.MaxList)
	checkList(t, many, strings.Join(many, ","))
	long := strings.Repeat("ab", api.MaxObject)
	checkList(t, []string{long, ",", long}, long+`,\,,`+long)
}

func TestListEscapes(t *testing.T) {
	for _, a := range textEscapes {
		checkList(t, []string{a.plain}, a.written)
		checkList(t, []string{a.plain + a.plain}, a.written+a.written)
		checkList(t, []string{"", a.plain}, ","+a.written)
		checkList(t, []string{a.plain, ""}, a.written+",")
		for _, b := range textEscapes {
			checkList(t, []string{a.plain, b.plain}, a.written+","+b.written)
			checkList(t, []string{a.plain + b.plain}, a.written+b.written)
			checkList(t, []string{"x" + a.plain, b.plain + "n", a.plain + "y" + b.plain}, "x"+a.written+","+b.written+"n,"+a.written+"y"+b.written)
		}
	}
}

func TestListEachByte(t *testing.T) {
	for i := range 128 {
		c := byte(i)
		s := string([]byte{c})
		for _, l := range [][]string{{s}, {s, ""}, {"", s}, {"a", s, "b"}, {"a" + s, "b"}, {"a", "b" + s + "é"}} {
			if forbidden(c) {
				checkNoList(t, l, api.ErrValue)
				continue
			}
			var texts []string
			for _, text := range l {
				written, _ := escape.Text(text)
				texts = append(texts, written)
			}
			checkList(t, l, strings.Join(texts, ","))
		}
	}
}

func TestItemsCommas(t *testing.T) {
	checkNoItems(t, "", api.ErrValue)
	checkItems(t, ",", "", "")
	checkItems(t, ",,", "", "", "")
	checkItems(t, ",a", "", "a")
	checkItems(t, "a,", "a", "")
	checkItems(t, ",a,", "", "a", "")
	checkItems(t, "a,,b", "a", "", "b")
	checkItems(t, "a", "a")
	checkItems(t, " ", " ")
	checkItems(t, "a,b,c", "a", "b", "c")
	checkItems(t, "a, b ,c", "a", " b ", "c")
	checkItems(t, `\,`, ",")
	checkItems(t, `\,,`, ",", "")
	checkItems(t, `,\,`, "", ",")
	checkItems(t, `\,,\,`, ",", ",")
	checkItems(t, `\,\,`, ",,")
	checkItems(t, `a\,b,c`, "a,b", "c")
	checkItems(t, `\\,a`, `\`, "a")
	checkItems(t, `\\\,a`, `\,a`)
	checkItems(t, `\\\\,a`, `\\`, "a")
	checkItems(t, `\;,\n,\N,\\`, ";", "\n", "\n", `\`)
	checkItems(t, `\n,n\,N,\\n`, "\n", "n,N", `\n`)
	checkItems(t, `a:"b",^n`, `a:"b"`, "^n")
}

func TestItemsUnescaped(t *testing.T) {
	for _, s := range []string{";", "a;b", ",;", ";,", "a,b;c,d", `a,\`, `\`, `\\\`, `\a`, `\a,b`, `a,\b`, `,\ `, `\\,\x`, "a,\n", "\n", "\n,a", `\,;`, `a\;;,b`} {
		checkNoItems(t, s, api.ErrValue)
	}
}

func TestItemsEachByte(t *testing.T) {
	for i := range 128 {
		c := byte(i)
		s := string([]byte{c})
		for _, around := range [][2]string{{"", ""}, {"a,", ""}, {"", "é"}, {"a", "b"}, {"a,", "b"}, {"x,a", "é"}} {
			text := around[0] + s + around[1]
			if forbidden(c) || strings.ContainsAny(s, "\n;\\") {
				checkNoItems(t, text, api.ErrValue)
			} else {
				checkItems(t, text, strings.Split(text, ",")...)
			}
		}
		// A backslash would escape the comma.
		if forbidden(c) || strings.ContainsAny(s, "\n;") {
			checkNoItems(t, s+",a", api.ErrValue)
		} else if c != '\\' {
			checkItems(t, s+",a", strings.Split(s+",a", ",")...)
		}
	}
}

// P9.2

func TestParamExample(t *testing.T) {
	checkParam(t, "a:b", `"a:b"`)
}

func TestParamOrdinary(t *testing.T) {
	for _, s := range []string{"", "a", "a b", " ", "\t", "REQ-PARTICIPANT", "Europe/Oslo", `a\nb`, `\`, "'", "n", "=", "é€😀", "x'y"} {
		checkParam(t, s, s)
	}
	for _, s := range []string{":", ";", ",", "::", ":;,", "a,b", "a;b", ":a", "a:", "mailto:a@b.example", "é:", "\t,", `\,`, "'a;'"} {
		checkParam(t, s, `"`+s+`"`)
	}
}

func TestParamEscapes(t *testing.T) {
	escapes := []struct{ plain, written string }{{"\n", "^n"}, {`"`, "^'"}, {"^", "^^"}}
	for _, a := range escapes {
		checkParam(t, a.plain, a.written)
		checkParam(t, "x"+a.plain, "x"+a.written)
		checkParam(t, a.plain+"n", a.written+"n")
		checkParam(t, a.plain+"'", a.written+"'")
		for _, mark := range []string{":", ";", ","} {
			checkParam(t, a.plain+mark, `"`+a.written+mark+`"`)
			checkParam(t, mark+a.plain, `"`+mark+a.written+`"`)
			checkParam(t, "x"+mark+a.plain+"y", `"x`+mark+a.written+`y"`)
		}
		for _, b := range escapes {
			checkParam(t, a.plain+b.plain, a.written+b.written)
			for _, c := range escapes {
				checkParam(t, a.plain+b.plain+c.plain, a.written+b.written+c.written)
				checkParam(t, a.plain+b.plain+","+c.plain, `"`+a.written+b.written+","+c.written+`"`)
			}
		}
	}
	// A " at the beginning, at the end, in between, alone and twice.
	checkParam(t, `"a`, "^'a")
	checkParam(t, `a"`, "a^'")
	checkParam(t, `a"b`, "a^'b")
	checkParam(t, `"`, "^'")
	checkParam(t, `""`, "^'^'")
	checkParam(t, `"a"`, "^'a^'")
	checkParam(t, `"a:b"`, `"^'a:b^'"`)
	checkParam(t, "^n", "^^n")
	checkParam(t, "^'", "^^'")
	checkParam(t, "^^", "^^^^")
	checkParam(t, "\"q\"\n", "^'q^'^n")
}

func TestParamEachByte(t *testing.T) {
	means := map[byte]string{'\n': "^n", '"': "^'", '^': "^^"}
	for i := range 128 {
		c := byte(i)
		s := string([]byte{c})
		written, ok := means[c]
		if !ok {
			written = s
		}
		mark := ""
		if strings.Contains(":;,", s) {
			mark = `"`
		}
		for _, around := range [][2]string{{"", ""}, {"a", ""}, {"", "b"}, {"é", "é"}} {
			text := around[0] + s + around[1]
			if forbidden(c) {
				checkNone(t, escape.Param, text, api.ErrValue)
				checkNone(t, escape.Param, text+":", api.ErrValue)
				continue
			}
			checkParam(t, text, mark+around[0]+written+around[1]+mark)
			checkParam(t, text+":", `"`+around[0]+written+around[1]+`:"`)
		}
	}
}

func TestValueCarets(t *testing.T) {
	for _, c := range []struct{ written, value string }{
		{"^n", "\n"}, {"^'", `"`}, {"^^", "^"},
		{"^n^n", "\n\n"}, {"^'^'", `""`}, {"^^^^", "^^"}, {"^'^n^^", "\"\n^"}, {"a^nb^'c^^d", "a\nb\"c^d"},
		{"^", "^"}, {"a^", "a^"}, {"^^^", "^^"}, {"^n^", "\n^"}, {"^a", "^a"}, {"a^b^", "a^b^"}, {"^^^n", "^\n"}, {"^^n", "^n"}, {"^^'", "^'"}, {"^^^^n", "^^n"}, {"^a^n", "^a\n"},
		{"^N", "^N"}, {"^\\n", "^\\n"}, {`\n`, `\n`}, {`\\`, `\\`}, {"^\t", "^\t"}, {"^ n", "^ n"}, {"^é", "^é"}, {"'", "'"}, {"n'", "n'"},
	} {
		checkValue(t, c.written, c.value)
		checkValue(t, `"`+c.written+`"`, c.value)
		checkValue(t, `":`+c.written+`;"`, ":"+c.value+";")
	}
}

// TestValueCaretBefore puts a ^ before each byte, and in front of the " at the end.
func TestValueCaretBefore(t *testing.T) {
	means := map[byte]string{'n': "\n", '\'': `"`, '^': "^"}
	for i := range 128 {
		c := byte(i)
		s := "^" + string([]byte{c})
		want, ok := means[c]
		if !ok {
			want = s
		}
		for _, around := range [][2]string{{"", ""}, {"a", ""}, {"", "b"}, {"^^", "é"}} {
			written := around[0] + s + around[1]
			value := strings.ReplaceAll(around[0], "^^", "^") + want + around[1]
			invalid := forbidden(c) || c == '\n' || c == '"'
			if invalid || strings.Contains(":;,", s[1:]) {
				checkNone(t, escape.Value, written, api.ErrValue)
			} else {
				checkValue(t, written, value)
			}
			if invalid {
				checkNone(t, escape.Value, `"`+written+`"`, api.ErrValue)
			} else {
				checkValue(t, `"`+written+`"`, value)
			}
		}
	}
	for _, s := range wide() {
		checkValue(t, "^"+s, "^"+s)
		checkValue(t, "\"^"+s+"^\"", "^"+s+"^")
	}
	checkValue(t, `"^"`, "^")
	checkValue(t, `"^^"`, "^")
	checkValue(t, `"a^"`, "a^")
}

func TestValueQuotes(t *testing.T) {
	checkValue(t, "", "")
	checkValue(t, `""`, "")
	checkValue(t, `"a"`, "a")
	checkValue(t, `" "`, " ")
	checkValue(t, "\"\t\"", "\t")
	for _, s := range []string{":", ";", ",", "a:b", "a;b", "a,b", ":;,", ",a", "a;"} {
		checkValue(t, `"`+s+`"`, s)
		checkNone(t, escape.Value, s, api.ErrValue)
		checkNone(t, escape.Value, `"`+s, api.ErrValue)
		checkNone(t, escape.Value, s+`"`, api.ErrValue)
		checkNone(t, escape.Value, `"a"`+s, api.ErrValue)
		checkNone(t, escape.Value, s+`"a"`, api.ErrValue)
	}
	for _, s := range []string{`"`, `"""`, `""""`, `a"b`, `a"`, `"a`, `"a"b`, `a"b"`, `"a"b"`, `""a`, `a""`, `""a""`, `"a""b"`, ` "a"`, `"a" `, `'"`, `^"`, `^"a"`, `"^'`, `"^"^"`, `"a^`, `é"`, `"é`} {
		checkNone(t, escape.Value, s, api.ErrValue)
	}
}

func TestValueEachByte(t *testing.T) {
	for i := range 128 {
		c := byte(i)
		s := string([]byte{c})
		for _, around := range [][2]string{{"", ""}, {"a", ""}, {"", "b"}, {"é", "é"}, {"\t", " "}} {
			text := around[0] + s + around[1]
			invalid := forbidden(c) || c == '\n' || c == '"'
			if invalid || strings.Contains(":;,", s) {
				checkNone(t, escape.Value, text, api.ErrValue)
			} else {
				checkValue(t, text, text)
			}
			if invalid {
				checkNone(t, escape.Value, `"`+text+`"`, api.ErrValue)
			} else {
				checkValue(t, `"`+text+`"`, text)
			}
		}
	}
}

// P9.1 and P9.2: what is not UTF-8, and the order of errors

func TestWide(t *testing.T) {
	for _, c := range wide() {
		for _, s := range []string{c, c + c, "a" + c, c + "b", "a" + c + "b"} {
			checkWritten(t, s, s)
			checkWritten(t, s+","+s, s+`\,`+s)
			checkWritten(t, "\n"+s+"\\", `\n`+s+`\\`)
			checkList(t, []string{s}, s)
			checkList(t, []string{s, s + ";"}, s+","+s+`\;`)
			checkParam(t, s, s)
			checkParam(t, s+":"+s, `"`+s+":"+s+`"`)
			checkParam(t, "^"+s+"\n", "^^"+s+"^n")
		}
	}
}

// TestBroken puts bytes that belong to no valid code point at each place, and other errors beside them.
func TestBroken(t *testing.T) {
	beside := []string{"", "a", "é", `\n`, `\`, ";", ",", ":", `"`, "^", "^n", "\n", "\r", "\x00", "\x7f", `\x`, `"a`, ",,"}
	for _, c := range broken() {
		for _, a := range beside {
			for _, b := range beside {
				s := a + c + b
				for _, f := range oneToOne {
					checkNone(t, f.call, s, api.ErrUTF)
				}
				checkNone(t, escape.Value, `"`+s+`"`, api.ErrUTF)
				checkNoItems(t, s, api.ErrUTF)
				checkNoList(t, []string{s}, api.ErrUTF)
				checkNoList(t, []string{"", s}, api.ErrUTF)
				checkNoList(t, []string{s, "\x01"}, api.ErrUTF)
			}
		}
	}
}

// TestSplitCodePoint puts a code point around each character that is escaped or separates texts.
func TestSplitCodePoint(t *testing.T) {
	for _, c := range wide() {
		for cut := 1; cut < len(c); cut++ {
			for _, mark := range []string{",", ";", `\`, `\,`, `\n`, "\n", "^", "^n", `"`, "a"} {
				s := c[:cut] + mark + c[cut:]
				for _, f := range oneToOne {
					checkNone(t, f.call, s, api.ErrUTF)
				}
				checkNoItems(t, s, api.ErrUTF)
			}
			checkNoList(t, []string{c[:cut], c[cut:]}, api.ErrUTF)
		}
	}
}

func TestListOrderOfErrors(t *testing.T) {
	// The texts are checked from the first one on.
	checkNoList(t, []string{"a", "\xff", "\x01"}, api.ErrUTF)
	checkNoList(t, []string{"a", "\x01", "\xff"}, api.ErrValue)
	checkNoList(t, []string{"a", "\x01\xff", "\x01"}, api.ErrUTF)
	checkNoList(t, []string{"", "\r", "\xc3", "\xff"}, api.ErrValue)
	checkNoList(t, []string{"\xff"}, api.ErrUTF)
	checkNoList(t, []string{"\x7f"}, api.ErrValue)
}

func TestItemsOrderOfErrors(t *testing.T) {
	// What is not UTF-8 is all of s, so that it counts ahead of the texts before it.
	for _, s := range []string{"\xff", ",\xff", "\x01,\xff", ";,\xff", "\\x,\xff", "\n,a,\xff", "\xff,\x01", "\xff,;", "a,\xff;", "\\,\xff", "\xff\\"} {
		checkNoItems(t, s, api.ErrUTF)
	}
}

// P9.1 to P9.3 at once

// TestEachShortText tries all texts of up to five of the bytes that matter to texts, and then to
// parameter values.
func TestEachShortText(t *testing.T) {
	for _, alphabet := range []string{"an\\;,\n\t\xc3\xa9", "an':,\"^\n\xff"} {
		texts := []string{""}
		for range 5 {
			var longer []string
			for _, s := range texts {
				for i := range len(alphabet) {
					longer = append(longer, s+alphabet[i:i+1])
				}
			}
			for _, s := range longer {
				checkAll(t, s)
			}
			if t.Failed() {
				return
			}
			texts = longer
		}
	}
}

func TestRandom(t *testing.T) {
	random := rand.New(rand.NewSource(91))
	usual := append(wide(), "a", "bc", "n", "N", " ", "\t", `\n`, `\N`, `\\`, `\;`, `\,`, "^n", "^'", "^^", "'")
	rare := []string{",", ":", ";", `"`, `\`, "^", "\n", "\r", "\x00", "\x1f", "\x7f", "\xc3", "\xa9", "\xff"}
	for range 20000 {
		s := ""
		for range random.Intn(30) {
			if random.Intn(25) == 0 {
				s += rare[random.Intn(len(rare))]
			} else {
				s += usual[random.Intn(len(usual))]
			}
		}
		checkAll(t, s)
		checkAll(t, `"`+s+`"`)
	}
}

func TestWrittenIsRead(t *testing.T) {
	random := rand.New(rand.NewSource(93))
	parts := append(wide(), "a", "n", "N", " ", "\t", "\n", `\`, ";", ",", ":", `"`, "^", "'")
	for range 5000 {
		var l []string
		for range random.Intn(9) {
			s := ""
			for range random.Intn(20) {
				s += parts[random.Intn(len(parts))]
			}
			l = append(l, s)
			written, e := escape.Text(s)
			if e != api.OK {
				t.Errorf("Text(%q) = %v", s, e)
			}
			checkRead(t, written, s)
			written, e = escape.Param(s)
			if e != api.OK {
				t.Errorf("Param(%q) = %v", s, e)
			}
			checkValue(t, written, s)
		}
		written, e := escape.List(l)
		if len(l) == 0 || len(l) == 1 && l[0] == "" {
			checkNoList(t, l, api.ErrValue)
			continue
		}
		if e != api.OK {
			t.Errorf("List(%q) = %v", l, e)
		}
		checkItems(t, written, l...)
	}
}

// TestLong tries texts that are longer than the limits of the other layers.
func TestLong(t *testing.T) {
	for _, s := range []string{"a", ",", "\\", "\n", "^", `"`, "é", "a:b;c,d\\e\n"} {
		long := strings.Repeat(s, 2*api.MaxObject)
		checkBack(t, long)
		for _, f := range oneToOne {
			x, e := f.call(long)
			if want, errno := f.want(long); x != want || e != errno {
				t.Errorf("%s of %q many times is wrong, or has the error %v", f.name, s, e)
			}
		}
	}
	if l, e := escape.Items(strings.Repeat(",", 2*api.MaxObject)); len(l) != 2*api.MaxObject+1 || e != api.OK {
		t.Errorf("%d texts, %v", len(l), e)
	}
}

// R3

// shares reports whether two texts that are not empty have a byte of memory in common.
func shares(a, b string) bool {
	first, second := uintptr(unsafe.Pointer(unsafe.StringData(a))), uintptr(unsafe.Pointer(unsafe.StringData(b)))
	return first < second+uintptr(len(b)) && second < first+uintptr(len(a))
}

func TestTextMemory(t *testing.T) {
	for _, s := range []string{"abc", "abcdefgh", `ab\ncd`, "ab^ncd", `"abcd"`, "a\nb\tc", strings.Repeat("ab", 500)} {
		for _, f := range oneToOne {
			before := strings.Clone(s)
			x, _ := f.call(s)
			again, _ := f.call(s)
			if s != before {
				t.Errorf("%s changed %q to %q", f.name, before, s)
			}
			if x != "" && (shares(x, s) || shares(x, again)) {
				t.Errorf("%s(%q) shares memory with its argument or with another result", f.name, s)
			}
		}
	}
}

func TestListMemory(t *testing.T) {
	for _, l := range [][]string{{"abc", "spare"}, {"ab", "cd,", "ef", "spare", "more"}, {"ab", "\xff", "spare"}, {"ab", "\x01", "spare"}, {"", "spare"}} {
		before := slices.Clone(l)
		x, _ := escape.List(l[:len(l)-1])
		again, _ := escape.List(l[:len(l)-1])
		if !slices.Equal(l, before) {
			t.Errorf("List changed %q to %q", before, l)
		}
		for _, s := range l {
			if x != "" && s != "" && shares(x, s) {
				t.Errorf("List(%q) shares memory with %q", l, s)
			}
		}
		if x != "" && shares(x, again) {
			t.Errorf("two results of List(%q) share memory", l)
		}
	}
}

func TestItemsMemory(t *testing.T) {
	for _, s := range []string{"abc", "ab,cd,ef", `ab\,cd,ef\n`, "ab,,cd,", strings.Repeat("ab,", 100)} {
		before := strings.Clone(s)
		l, e := escape.Items(s)
		again, _ := escape.Items(s)
		if e != api.OK || s != before {
			t.Errorf("Items(%q) = %v, and left %q", before, e, s)
		}
		want := slices.Clone(again)
		for i, item := range l {
			for k, other := range again {
				if item != "" && other != "" && shares(item, other) {
					t.Errorf("the texts %d and %d of two results of Items(%q) share memory", i, k, s)
				}
			}
			if item != "" && shares(item, s) {
				t.Errorf("the text %q of Items(%q) shares memory with the list", item, s)
			}
		}
		l = l[:cap(l)]
		for i := range l {
			l[i] = "changed"
		}
		if third, _ := escape.Items(s); !slices.Equal(again, want) || !slices.Equal(third, want) {
			t.Errorf("a change of one result of Items(%q) is seen in %q or %q", s, again, third)
		}
	}
}

// P5

// FuzzAll holds whatever is written and read against another way of doing it.
func FuzzAll(f *testing.F) {
	for _, s := range append(append(wide(), broken()...), "", "a,b", `a\,b`, `\`, `\x`, "a:b", `"a:b"`, `"`, "^n^'^^^", "a\nb", "\x7f") {
		f.Add(s, s)
	}
	f.Fuzz(func(t *testing.T, a, b string) {
		checkAll(t, a)
		checkAll(t, `"`+a+`"`)
		checkLists(t, []string{a, b}, []string{b, "", a})
	})
}
