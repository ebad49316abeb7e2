package fold_test

import (
	"math/rand"
	"regexp"
	"slices"
	"strings"
	"testing"
	"unsafe"

	"tryst/api"
	"tryst/fold"
)

// letters returns a text of n bytes, of which no two next to each other are the same.
func letters(n int) string {
	return strings.Repeat("abcdefghijklmnopqrstuvw", n/23+1)[:n]
}

// wide are valid code points of two, three and four bytes, the first and the last of each width among
// them, and those around the ones that UTF-8 leaves out.
func wide() []string {
	return []string{
		"\u0080", "é", "\u07ff",
		"\u0800", "€", "\ud7ff", "\ue000", "\ufffd", "\uffff",
		"\U00010000", "😀", "\U0010ffff",
	}
}

// broken are bytes that belong to no valid code point.
func broken() []string {
	return []string{
		"\x80", "\xbf", "\xc3", "\xe2", "\xf0", "\xf8", "\xfe", "\xff",
		"\xa9\xc3", "\x80\x80\x80\x80\x80", "\xc3\xc3", "\xe2\x82", "\xf0\x9f", "\xf0\x9f\x98",
		"\xe2\x82\xe2\x82", "\xf0\x9f\x98\xf0\x9f\x98",
		// Too many bytes for the number, surrogates, and numbers beyond the last code point.
		"\xc0\x80", "\xc1\xbf", "\xe0\x80\x80", "\xe0\x9f\xbf", "\xf0\x80\x80\x80", "\xf0\x8f\xbf\xbf",
		"\xed\xa0\x80", "\xed\xbf\xbf", "\xf4\x90\x80\x80", "\xf5\x80\x80\x80", "\xf8\x88\x80\x80\x80",
	}
}

func checkFold(t *testing.T, lines []string, want string) {
	t.Helper()
	if s, e := fold.Fold(lines); s != want || e != api.OK {
		t.Errorf("Fold(%q) = %q, %v, want %q, OK", lines, s, e, want)
	}
}

func checkNoFold(t *testing.T, lines []string, want api.Errno) {
	t.Helper()
	if s, e := fold.Fold(lines); s != "" || e != want {
		t.Errorf("Fold(%.200q) = %.200q, %v, want no text, %v", lines, s, e, want)
	}
}

func checkUnfold(t *testing.T, s string, want ...string) {
	t.Helper()
	if lines, n, e := fold.Unfold(s); !slices.Equal(lines, want) || n != 0 || e != api.OK {
		t.Errorf("Unfold(%.200q) = %.200q, %d, %v, want %.200q, 0, OK", s, lines, n, e, want)
	}
}

func checkNoUnfold(t *testing.T, s string, number int, want api.Errno) {
	t.Helper()
	if lines, n, e := fold.Unfold(s); len(lines) != 0 || n != number || e != want {
		t.Errorf("Unfold(%.200q) = %.200q, %d, %v, want no lines, %d, %v", s, lines, n, e, number, want)
	}
}

// checkBack checks P8.3 and that no folded line has more than 75 bytes.
func checkBack(t *testing.T, lines []string) {
	t.Helper()
	s, e := fold.Fold(lines)
	if e != api.OK {
		t.Errorf("Fold(%.200q) = %v", lines, e)
		return
	}
	for _, piece := range strings.SplitAfter(s, "\r\n") {
		if len(piece) > 77 {
			t.Errorf("Fold(%.200q) has the piece %q of %d bytes", lines, piece, len(piece))
		}
	}
	checkUnfold(t, s, lines...)
}

// folded joins the pieces of a line, each of the length given; what is left is the last piece.
func folded(line string, lengths ...int) string {
	var pieces []string
	for _, n := range lengths {
		pieces = append(pieces, line[:n])
		line = line[n:]
	}
	return strings.Join(append(pieces, line), "\r\n ") + "\r\n"
}

// byBytes folds a line as if each of its bytes were a code point.
func byBytes(line string) string {
	var lengths []int
	for n, room := len(line), 75; n > room; room = 74 {
		lengths = append(lengths, room)
		n -= room
	}
	return folded(line, lengths...)
}

// points has the valid code points of more than one byte, by the table of well-formed bytes of the
// Unicode Standard: for each row the bounds of each byte.
var points = [][][2]byte{
	{{0xc2, 0xdf}, {0x80, 0xbf}},
	{{0xe0, 0xe0}, {0xa0, 0xbf}, {0x80, 0xbf}},
	{{0xe1, 0xec}, {0x80, 0xbf}, {0x80, 0xbf}},
	{{0xed, 0xed}, {0x80, 0x9f}, {0x80, 0xbf}},
	{{0xee, 0xef}, {0x80, 0xbf}, {0x80, 0xbf}},
	{{0xf0, 0xf0}, {0x90, 0xbf}, {0x80, 0xbf}, {0x80, 0xbf}},
	{{0xf1, 0xf3}, {0x80, 0xbf}, {0x80, 0xbf}, {0x80, 0xbf}},
	{{0xf4, 0xf4}, {0x80, 0x8f}, {0x80, 0xbf}, {0x80, 0xbf}},
}

func begins(s string, row [][2]byte) bool {
	for i, bounds := range row {
		if i >= len(s) || s[i] < bounds[0] || s[i] > bounds[1] {
			return false
		}
	}
	return true
}

// inside marks the places of s that are inside a valid code point.
func inside(s string) []bool {
	marks := make([]bool, len(s))
	for at := range len(s) {
		for _, row := range points {
			if begins(s[at:], row) {
				for n := 1; n < len(row); n++ {
					marks[at+n] = true
				}
			}
		}
	}
	return marks
}

// valid reports whether s is UTF-8.
func valid(s string) bool {
	marks := inside(s)
	for at := range len(s) {
		if s[at] >= 0x80 && !marks[at] && (at+1 == len(s) || !marks[at+1]) {
			return false
		}
	}
	return true
}

// foldedBack folds a line in another way: it goes back from the last place where a piece could end.
func foldedBack(line string) string {
	marks := inside(line)
	var lengths []int
	for from, room := 0, 75; from+room < len(line); room = 74 {
		to := from + room
		for marks[to] {
			to--
		}
		lengths = append(lengths, to-from)
		from = to
	}
	return folded(line, lengths...)
}

// P8.1

func TestFoldExample(t *testing.T) {
	checkFold(t, []string{"a"}, "a\r\n")
	checkFold(t, []string{"BEGIN:VEVENT", "SUMMARY:a b", "END:VEVENT"}, "BEGIN:VEVENT\r\nSUMMARY:a b\r\nEND:VEVENT\r\n")
}

func TestFoldNoLines(t *testing.T) {
	checkFold(t, nil, "")
	checkFold(t, []string{}, "")
}

func TestFoldLengths(t *testing.T) {
	for _, c := range []struct {
		length  int
		lengths []int
	}{
		{1, nil}, {2, nil}, {73, nil}, {74, nil}, {75, nil},
		{76, []int{75}}, {77, []int{75}}, {147, []int{75}}, {148, []int{75}}, {149, []int{75}},
		{150, []int{75, 74}}, {151, []int{75, 74}}, {152, []int{75, 74}}, {222, []int{75, 74}}, {223, []int{75, 74}},
		{224, []int{75, 74, 74}}, {225, []int{75, 74, 74}}, {297, []int{75, 74, 74}}, {298, []int{75, 74, 74, 74}},
	} {
		line := letters(c.length)
		checkFold(t, []string{line}, folded(line, c.lengths...))
		checkFold(t, []string{"A:b", line, line, "E"}, "A:b\r\n"+folded(line, c.lengths...)+folded(line, c.lengths...)+"E\r\n")
	}
}

func TestFoldEachLength(t *testing.T) {
	for n := 1; n <= api.MaxLine; n++ {
		line := letters(n)
		checkFold(t, []string{line}, byBytes(line))
		checkBack(t, []string{line})
		if t.Failed() {
			return
		}
	}
}

func TestFoldWide(t *testing.T) {
	for _, c := range wide() {
		for place := 65; place <= 75; place++ {
			line := letters(place) + c + letters(60)
			first := 75
			if place < 75 && place+len(c) > 75 {
				first = place
			}
			checkFold(t, []string{line}, folded(line, first))
			checkBack(t, []string{line, "a", line})
		}
		for place := 140; place <= 150; place++ {
			line := letters(place) + c + letters(60)
			second := 74
			if place < 149 && place+len(c) > 149 {
				second = place - 75
			}
			checkFold(t, []string{line}, folded(line, 75, second))
			checkBack(t, []string{line, "a", line})
		}
		// At the end of the line nothing follows that a piece could take in.
		checkFold(t, []string{letters(75-len(c)) + c}, letters(75-len(c))+c+"\r\n")
		checkFold(t, []string{letters(76-len(c)) + c}, letters(76-len(c))+"\r\n "+c+"\r\n")
		checkFold(t, []string{letters(74) + c}, letters(74)+"\r\n "+c+"\r\n")
		checkFold(t, []string{letters(75) + c}, letters(75)+"\r\n "+c+"\r\n")
	}
}

// TestFoldWideLines folds lines of nothing but wide code points, with a few letters ahead of them.
func TestFoldWideLines(t *testing.T) {
	checkFold(t, []string{strings.Repeat("é", 80)}, strings.Repeat("é", 37)+"\r\n "+strings.Repeat("é", 37)+"\r\n "+strings.Repeat("é", 6)+"\r\n")
	checkFold(t, []string{strings.Repeat("€", 50)}, strings.Repeat("€", 25)+"\r\n "+strings.Repeat("€", 24)+"\r\n €\r\n")
	checkFold(t, []string{strings.Repeat("😀", 37)}, strings.Repeat("😀", 18)+"\r\n "+strings.Repeat("😀", 18)+"\r\n 😀\r\n")
	for _, c := range wide() {
		for ahead := range 9 {
			line := letters(ahead) + strings.Repeat(c, 400)
			checkFold(t, []string{line}, foldedBack(line))
			checkBack(t, []string{line})
		}
	}
}

// TestFoldBroken puts bytes that belong to no valid code point around a fold: each counts as one.
func TestFoldBroken(t *testing.T) {
	for _, c := range broken() {
		for place := 1; place <= 160; place++ {
			line := letters(place) + c + letters(160)
			checkFold(t, []string{line}, byBytes(line))
			checkFold(t, []string{letters(place) + c}, byBytes(letters(place)+c))
		}
		checkFold(t, []string{c}, c+"\r\n")
	}
}

// TestFoldBrokenAndWide puts valid code points next to bytes that belong to none.
func TestFoldBrokenAndWide(t *testing.T) {
	e := letters(73) + "é"
	checkFold(t, []string{e + "\xa9"}, e+"\r\n \xa9\r\n")
	checkFold(t, []string{letters(72) + "\xc3é"}, letters(72)+"\xc3é\r\n")
	checkFold(t, []string{letters(73) + "\xc3é"}, letters(73)+"\xc3\r\n é\r\n")
	checkFold(t, []string{letters(74) + "\xc3é"}, letters(74)+"\xc3\r\n é\r\n")
	checkFold(t, []string{letters(72) + "\xf0\x9f\x98\xf0\x9f\x98\x80"}, letters(72)+"\xf0\x9f\x98\r\n \xf0\x9f\x98\x80\r\n")
	checkFold(t, []string{letters(73) + "\xf0\x9f\x98\xf0\x9f\x98\x80"}, letters(73)+"\xf0\x9f\r\n \x98\xf0\x9f\x98\x80\r\n")
	for _, b := range broken() {
		for _, c := range wide() {
			for place := 66; place <= 76; place++ {
				for _, middle := range []string{b + c, c + b, c + b + c, b + c + b} {
					line := letters(place) + middle + letters(70)
					checkFold(t, []string{line}, foldedBack(line))
				}
			}
		}
	}
}

// TestFoldEachByte puts each byte at each place next to a fold, alone among letters.
func TestFoldEachByte(t *testing.T) {
	for b := range 256 {
		if b == '\r' || b == '\n' {
			continue
		}
		for _, place := range []int{73, 74, 75, 76, 147, 148, 149, 150} {
			line := letters(place) + string([]byte{byte(b)}) + letters(200-place)
			checkFold(t, []string{line}, folded(line, 75, 74))
		}
	}
}

// Only code points are kept whole: not what is shown as one character, and not words.
func TestFoldSplitsCharacters(t *testing.T) {
	checkFold(t, []string{letters(74) + "e\u0301"}, letters(74)+"e\r\n \u0301\r\n")
	checkFold(t, []string{letters(73) + "e\u0301"}, letters(73)+"e\r\n \u0301\r\n")
	checkFold(t, []string{letters(72) + "e\u0301"}, letters(72)+"e\u0301\r\n")
	checkFold(t, []string{letters(75) + " b"}, letters(75)+"\r\n  b\r\n")
	checkFold(t, []string{letters(75) + "\tb"}, letters(75)+"\r\n \tb\r\n")
	checkFold(t, []string{letters(74) + " b"}, letters(74)+" \r\n b\r\n")
	checkFold(t, []string{letters(75) + " "}, letters(75)+"\r\n  \r\n")
	spaces := "a" + strings.Repeat(" ", 200)
	checkFold(t, []string{spaces}, folded(spaces, 75, 74))
	checkBack(t, []string{spaces, letters(75) + " b", letters(75) + "\t\tb", letters(149) + " "})
}

func TestFoldRandom(t *testing.T) {
	random := rand.New(rand.NewSource(8))
	parts := append(append(wide(), broken()...), "a", "b", " ", "\t", "\x00", "\x7f")
	for range 3000 {
		line := "x"
		for length := random.Intn(400); len(line) < length; {
			line += parts[random.Intn(len(parts))]
		}
		checkFold(t, []string{line}, foldedBack(line))
	}
}

// TestFoldSyntax puts each byte at the beginning of a line and elsewhere.
func TestFoldSyntax(t *testing.T) {
	for b := range 256 {
		c := string([]byte{byte(b)})
		end := c == "\r" || c == "\n"
		blank := c == " " || c == "\t"
		for _, line := range []string{c, c + "a", c + letters(300)} {
			if end || blank {
				checkNoFold(t, []string{line}, api.ErrSyntax)
				checkNoFold(t, []string{"a", line, "b"}, api.ErrSyntax)
				checkNoFold(t, []string{letters(300), line}, api.ErrSyntax)
			} else {
				checkFold(t, []string{"a", line, "b"}, "a\r\n"+byBytes(line)+"b\r\n")
			}
		}
		for _, line := range []string{"a" + c, "a" + c + "b", letters(74) + c, letters(75) + c + "a", letters(300) + c} {
			if end {
				checkNoFold(t, []string{line}, api.ErrSyntax)
				checkNoFold(t, []string{"a", line, "b"}, api.ErrSyntax)
				checkNoFold(t, []string{"a", "b", line}, api.ErrSyntax)
			} else {
				checkFold(t, []string{"a", line, "b"}, "a\r\n"+byBytes(line)+"b\r\n")
			}
		}
	}
	for _, lines := range [][]string{
		{""}, {"", "a"}, {"a", ""}, {"a", "", "b"}, {"", ""},
		{" "}, {"\t"}, {" \t"}, {"\r\n"}, {"a\r\n"}, {"\r\na"}, {"a\r\n b"}, {"a\nb"}, {"a", " b"}, {"a", "\tb"}, {"\n\r"},
	} {
		checkNoFold(t, lines, api.ErrSyntax)
	}
	// These are blank or ends of lines elsewhere, but not here.
	for _, c := range []string{"\u00a0", "\u0085", "\u2028", "\u2029", "\u3000", "\ufeff", "\v", "\f", "\x85", "\xa0"} {
		checkFold(t, []string{c + "a", "a" + c + "b"}, c+"a\r\na"+c+"b\r\n")
	}
}

func TestFoldMaxLine(t *testing.T) {
	line := letters(api.MaxLine)
	want := line[:75]
	for at := 75; at < 1999; at += 74 {
		want += "\r\n " + line[at:at+74]
	}
	checkFold(t, []string{line}, want+"\r\n "+line[1999:]+"\r\n")
	checkFold(t, []string{letters(1999)}, want+"\r\n")
	// Bytes are counted, not code points.
	checkBack(t, []string{strings.Repeat("é", 1000)})
	checkBack(t, []string{strings.Repeat("😀", 500)})
	for _, long := range []string{letters(2001), letters(2002), letters(30000), "a" + strings.Repeat("é", 1000), strings.Repeat("😀", 501), strings.Repeat("\xff", 2001)} {
		checkNoFold(t, []string{long}, api.ErrLong)
		checkNoFold(t, []string{"a", long}, api.ErrLong)
		checkNoFold(t, []string{long, "a"}, api.ErrLong)
		checkNoFold(t, []string{"a", line, long, "a"}, api.ErrLong)
	}
}

func TestFoldMaxObject(t *testing.T) {
	short := slices.Repeat([]string{"a"}, 6666)
	// A line of MaxLine bytes has 28 pieces, so 2083 bytes when it is folded; one of 1203 bytes has 17
	// pieces and 1253 bytes.
	long := slices.Repeat([]string{letters(api.MaxLine)}, 9)
	for _, c := range []struct {
		lines []string
		size  int
	}{
		{short, 19998},
		{append(short[:6665:6665], "aa"), 19999},
		{append(short[:6665:6665], "aaa"), 20000},
		{append(short[:6665:6665], "é"), 19999},
		{append(short[:6665:6665], "€"), 20000},
		{append(short[:6665:6665], "aaaa"), 20001},
		{append(short[:6665:6665], "a€"), 20001},
		{append(short[:6666:6666], "a"), 20001},
		{append([]string{"aaaa"}, short[:6665]...), 20001},
		{append(long[:9:9], letters(1202)), 19999},
		{append(long[:9:9], letters(1203)), 20000},
		{append(long[:9:9], letters(1204)), 20001},
		{append([]string{letters(1203)}, long...), 20000},
		{append([]string{letters(1204)}, long...), 20001},
		{append(long[:9:9], "a", letters(1200)), 20000},
		{append(long[:9:9], "a", letters(1201)), 20001},
		{slices.Repeat(long, 2), 37494},
		{slices.Repeat(short, 10), 199980},
	} {
		if c.size > api.MaxObject {
			checkNoFold(t, c.lines, api.ErrLong)
			continue
		}
		checkBack(t, c.lines)
		if s, _ := fold.Fold(c.lines); len(s) != c.size {
			t.Errorf("%d lines folded have %d bytes, want %d", len(c.lines), len(s), c.size)
		}
	}
}

func TestFoldOrderOfErrors(t *testing.T) {
	long := letters(api.MaxLine + 1)
	many := slices.Repeat([]string{letters(api.MaxLine)}, 10)
	checkNoFold(t, many, api.ErrLong)
	for _, bad := range []string{"", " ", " a", "\ta", "\r", "\n", "a\r", "a\n", "a\rb", "a\nb", "a\r\n", " " + long, "\t" + long, long + "\r", long + "\n", "a\n" + long} {
		checkNoFold(t, []string{bad}, api.ErrSyntax)
		checkNoFold(t, []string{bad, long}, api.ErrSyntax)
		checkNoFold(t, []string{long, bad}, api.ErrSyntax)
		checkNoFold(t, []string{long, "a", bad, "b", long}, api.ErrSyntax)
		checkNoFold(t, append(many[:10:10], bad), api.ErrSyntax)
		checkNoFold(t, append([]string{bad}, many...), api.ErrSyntax)
		checkNoFold(t, append(append(many[:10:10], long), bad), api.ErrSyntax)
	}
}

// P8.2

func TestUnfold(t *testing.T) {
	checkUnfold(t, "")
	checkUnfold(t, "a\r\n", "a")
	checkUnfold(t, "a\n", "a")
	checkUnfold(t, "a\r\nb\nc\r\n", "a", "b", "c")
	for _, end := range []string{"\n", "\r\n"} {
		for _, other := range []string{"\n", "\r\n"} {
			for _, blank := range []string{" ", "\t"} {
				checkUnfold(t, "a"+end+blank+"b"+other, "ab")
				checkUnfold(t, "a"+end+blank+"b"+other+"c"+end, "ab", "c")
				checkUnfold(t, "x"+end+"a"+end+blank+"b"+other+blank+"c"+end+"d"+other, "x", "abc", "d")
				// One byte is taken away, and no other.
				checkUnfold(t, "a"+end+blank+" b"+other, "a b")
				checkUnfold(t, "a"+end+blank+"\tb"+other, "a\tb")
				checkUnfold(t, "a "+end+blank+"\t b"+other, "a \t b")
				// A piece of the blank alone is not empty; it adds nothing.
				checkUnfold(t, "a"+end+blank+other, "a")
				checkUnfold(t, "a"+end+blank+other+blank+other+blank+"b"+end+"c"+end, "ab", "c")
			}
		}
	}
	checkUnfold(t, "a b\n\x00\x01\x7f\v\f\n", "a b", "\x00\x01\x7f\v\f")
	// Blank or ends of lines elsewhere, but not here.
	for _, c := range []string{"\u00a0", "\u0085", "\u2028", "\u2029", "\u3000", "\ufeff", "\v", "\f", "\x00"} {
		checkUnfold(t, "a\n"+c+"b\n c"+c+"\n", "a", c+"b"+"c"+c)
		checkUnfold(t, c+"\r\n", c)
	}
}

func TestUnfoldSplitCodePoint(t *testing.T) {
	for _, c := range wide() {
		for cut := 1; cut < len(c); cut++ {
			for _, end := range []string{"\r\n ", "\n ", "\r\n\t", "\n\t", "\n \n\t\r\n "} {
				checkUnfold(t, "x\na"+c[:cut]+end+c[cut:]+"b\n", "x", "a"+c+"b")
				checkUnfold(t, c[:cut]+end+c[cut:]+"\n", c)
				checkNoUnfold(t, "x\na"+c[:cut]+end+c[cut:len(c)-1]+"b\n", 2, api.ErrUTF)
			}
			// Pieces of two lines do not make a code point.
			checkNoUnfold(t, "x\na"+c[:cut]+"\r\n"+c[cut:]+"b\n", 2, api.ErrUTF)
			checkNoUnfold(t, "x\na\n"+c[cut:]+"b\n", 3, api.ErrUTF)
		}
	}
	checkUnfold(t, "\xf0\n \x9f\r\n\t\x98\n \x80\n", "😀")
}

// TestUnfoldInvalidPiece puts each kind of invalid piece after each number of valid ones, some of them
// continuing a line.
func TestUnfoldInvalidPiece(t *testing.T) {
	invalid := []string{
		"\n", "\r\n", "\r\r\n", "\ra\n", "a\rb\n", "a\rb\r\n", "a\r\r\n", " \r\r\n", " a\rb\n", "\r\r\r\n", "\r \n", "a\r\rb\n",
	}
	unended := []string{"a", " ", " a", "\ta", "\r", "a\r", "a\rb", letters(3000), "\xff"}
	ahead := []string{"", "a\n", "a\r\nb\r\n", "a\n b\n", "a\n \n\tb\r\n", "a\nb\n c\nd\n e\n", strings.Repeat("ab\r\n cd\n", 900)}
	for _, s := range ahead {
		number := strings.Count(s, "\n") + 1
		for _, piece := range invalid {
			checkNoUnfold(t, s+piece, number, api.ErrSyntax)
			checkNoUnfold(t, s+piece+"b\n", number, api.ErrSyntax)
			checkNoUnfold(t, s+piece+" b\n", number, api.ErrSyntax)
			for _, next := range append(invalid, unended...) {
				checkNoUnfold(t, s+piece+next, number, api.ErrSyntax)
			}
		}
		for _, piece := range unended {
			checkNoUnfold(t, s+piece, number, api.ErrSyntax)
		}
	}
	for _, piece := range []string{" \n", "\t\n", " a\n", "\ta\r\n", "  \n", " \r\n", " \xff\n"} {
		checkNoUnfold(t, piece, 1, api.ErrSyntax)
		checkNoUnfold(t, piece+"a\n", 1, api.ErrSyntax)
		checkNoUnfold(t, piece+" a\n", 1, api.ErrSyntax)
		checkNoUnfold(t, "\n"+piece, 1, api.ErrSyntax)
		checkNoUnfold(t, "a\n\n"+piece, 2, api.ErrSyntax)
	}
}

func TestUnfoldInvalidLine(t *testing.T) {
	long := letters(api.MaxLine + 1)
	wrapped := byBytes(long)
	ahead := []string{"", "a\n", "a\r\nb\r\n", "a\n b\n", "a\nb\n c\nd\n e\n", strings.Repeat("ab\r\n cd\n", 700)}
	for _, s := range ahead {
		number := strings.Count(s, "\n") + 1
		for _, c := range broken() {
			checkNoUnfold(t, s+c+"\n", number, api.ErrUTF)
			checkNoUnfold(t, s+"a"+c+"b\r\n", number, api.ErrUTF)
			checkNoUnfold(t, s+"a\n b\n c"+c+"\n d\ne\n", number, api.ErrUTF)
			checkNoUnfold(t, s+c+"\n"+wrapped, number, api.ErrUTF)
			checkNoUnfold(t, s+wrapped+c+"\n", number, api.ErrLong)
			// A line with both errors.
			checkNoUnfold(t, s+wrapped+" "+c+"\n", number, api.ErrUTF)
			checkNoUnfold(t, s+c+long+"\n", number, api.ErrUTF)
		}
		for _, line := range []string{long + "\n", wrapped, long[:1000] + "\n " + long[1000:] + "\n", "a" + strings.Repeat("\n b", 2000) + "\n"} {
			checkNoUnfold(t, s+line, number, api.ErrLong)
			checkNoUnfold(t, s+line+"a\n b\n", number, api.ErrLong)
			checkNoUnfold(t, s+line+line, number, api.ErrLong)
		}
	}
}

func TestUnfoldMaxLine(t *testing.T) {
	line := letters(api.MaxLine)
	checkUnfold(t, line+"\n", line)
	checkUnfold(t, line+"\r\n", line)
	checkUnfold(t, line[:1000]+"\n "+line[1000:]+"\r\n \n\t\n", line)
	checkUnfold(t, byBytes(line), line)
	checkUnfold(t, "a\n"+line+"\n"+line+"\n", "a", line, line)
	checkNoUnfold(t, line+"\n\ta\n", 1, api.ErrLong)
	checkNoUnfold(t, line+"\n"+line+"\n  \n", 2, api.ErrLong)
	// Bytes are counted, not code points.
	checkUnfold(t, strings.Repeat("é", 1000)+"\n", strings.Repeat("é", 1000))
	checkNoUnfold(t, strings.Repeat("é", 1000)+"\n a\n", 1, api.ErrLong)
	checkNoUnfold(t, "a\n"+strings.Repeat("😀", 501)+"\n", 2, api.ErrLong)
}

func TestUnfoldMaxObject(t *testing.T) {
	lines := slices.Repeat([]string{"a"}, 10000)
	s := strings.Join(lines, "\n") + "\n"
	checkUnfold(t, s, lines...)
	checkUnfold(t, s[2:], lines[1:]...)
	checkUnfold(t, s[:19996]+"abc\n", append(lines[:9998:9998], "abc")...)
	checkUnfold(t, s[:19995]+"\r\n\ta\n", append(lines[:9997:9997], "aa")...)
	checkUnfold(t, "a\n"+strings.Repeat(" \n", 9999), "a")
	for _, long := range []string{"a" + s, s + "a", s + "\n", s + "\r\n", s + " a\n", "\n" + s, " " + s, s + s, "\xff" + s, letters(20001), strings.Repeat("\n", 20001), strings.Repeat("\r", 20001), strings.Repeat("\xff", 30000)} {
		checkNoUnfold(t, long, 0, api.ErrLong)
	}
	// With MaxObject bytes and no more, the other errors are found.
	checkNoUnfold(t, s[:19998]+"aa", 10000, api.ErrSyntax)
	checkNoUnfold(t, s[:19998]+"\n\n", 10000, api.ErrSyntax)
	checkNoUnfold(t, s[:19998]+"\xff\n", 10000, api.ErrUTF)
	checkNoUnfold(t, letters(20000), 1, api.ErrSyntax)
	checkNoUnfold(t, letters(19999)+"\n", 1, api.ErrLong)
	checkNoUnfold(t, letters(19998)+"\r\n", 1, api.ErrLong)
	checkNoUnfold(t, strings.Repeat("\xff", 19999)+"\n", 1, api.ErrUTF)
	checkNoUnfold(t, strings.Repeat("\n", 20000), 1, api.ErrSyntax)
	checkNoUnfold(t, strings.Repeat("\r", 20000), 1, api.ErrSyntax)
}

func TestUnfoldOrderOfErrors(t *testing.T) {
	long := letters(api.MaxLine + 1)
	// An invalid piece counts ahead of an invalid line, wherever it stands.
	for _, line := range []string{"\xff\n", long + "\n", "\xff" + long + "\n", "a\n \xc3\n"} {
		number := strings.Count(line, "\n") + 1
		for _, piece := range []string{"a", " a", "\r", "a\r"} {
			checkNoUnfold(t, line+piece, number, api.ErrSyntax)
			checkNoUnfold(t, line+"a\n b\n"+piece, number+2, api.ErrSyntax)
		}
		for _, piece := range []string{"\n", "\r\n", "a\rb\n", " \rb\r\n", "\r\r\n", "a\r\r\n"} {
			checkNoUnfold(t, line+piece, number, api.ErrSyntax)
			checkNoUnfold(t, line+"a\n b\n"+piece+"\xff\n", number+2, api.ErrSyntax)
			checkNoUnfold(t, line+piece+"\n"+line, number, api.ErrSyntax)
		}
	}
	checkNoUnfold(t, "a\n\xff", 2, api.ErrSyntax)
	checkNoUnfold(t, "a\n\xff\rb\n", 2, api.ErrSyntax)
	checkNoUnfold(t, " "+long+"\n", 1, api.ErrSyntax)
	checkNoUnfold(t, long, 1, api.ErrSyntax)
	// The first invalid line counts, whatever its error is.
	checkNoUnfold(t, "a\n b\nc\n"+long+"\n\xff\n", 4, api.ErrLong)
	checkNoUnfold(t, "a\n b\nc\n\xff\n"+long+"\n", 4, api.ErrUTF)
	checkNoUnfold(t, "a\n b\nc\n"+long+"\n \xff\n", 4, api.ErrUTF)
	checkNoUnfold(t, "\xff\n\xff\n", 1, api.ErrUTF)
}

// unfolded does in another way what Unfold does with texts that are not too long.
type unfolded struct {
	piece, end, wrap *regexp.Regexp
}

func byExpressions() unfolded {
	return unfolded{
		regexp.MustCompile(`\A[^\r\n]+\r?\n\z`),
		regexp.MustCompile(`\r?\n`),
		regexp.MustCompile(`\r?\n[ \t]`),
	}
}

func (u unfolded) of(s string) ([]string, int, api.Errno) {
	var firsts []int
	for i, piece := range strings.SplitAfter(s, "\n") {
		if piece == "" {
			break
		}
		blank := strings.IndexAny(piece, " \t") == 0
		if !u.piece.MatchString(piece) || blank && i == 0 {
			return nil, i + 1, api.ErrSyntax
		}
		if !blank {
			firsts = append(firsts, i+1)
		}
	}
	lines := u.end.Split(u.wrap.ReplaceAllString(s, ""), -1)
	lines = lines[:len(lines)-1]
	for i, line := range lines {
		if !valid(line) {
			return nil, firsts[i], api.ErrUTF
		}
		if len(line) > api.MaxLine {
			return nil, firsts[i], api.ErrLong
		}
	}
	return lines, 0, api.OK
}

func checkAgainst(t *testing.T, u unfolded, s string) {
	t.Helper()
	if lines, number, want := u.of(s); want == api.OK {
		checkUnfold(t, s, lines...)
	} else {
		checkNoUnfold(t, s, number, want)
	}
}

// TestUnfoldEachShortText tries all texts of up to six of the bytes that matter.
func TestUnfoldEachShortText(t *testing.T) {
	const alphabet = "a \t\r\n\xc3\xa9"
	u := byExpressions()
	texts := []string{""}
	for range 6 {
		var longer []string
		for _, s := range texts {
			for i := range len(alphabet) {
				longer = append(longer, s+alphabet[i:i+1])
			}
		}
		for _, s := range longer {
			checkAgainst(t, u, s)
		}
		if t.Failed() {
			return
		}
		texts = longer
	}
}

func TestUnfoldRandom(t *testing.T) {
	random := rand.New(rand.NewSource(82))
	u := byExpressions()
	usual := []string{"a", "bc", "é", "€", "😀", "\r\n", "\n", "\r\n ", "\n\t", "d\n", "e\r\n", letters(100)}
	rare := []string{"\r", "\xc3", "\xa9", "\n\n", " ", "\t", letters(1900)}
	for range 5000 {
		s := "a"
		for range random.Intn(30) {
			if random.Intn(40) == 0 {
				s += rare[random.Intn(len(rare))]
			} else {
				s += usual[random.Intn(len(usual))]
			}
		}
		checkAgainst(t, u, s)
		checkAgainst(t, u, s+"\r\n")
	}
}

// P8.3

func TestFoldedIsUnfolded(t *testing.T) {
	checkBack(t, nil)
	checkBack(t, []string{"a"})
	random := rand.New(rand.NewSource(83))
	parts := append(wide(), "a", "b", " ", "\t", "\x00", "\x7f", "  ", "\t ", ":", ";")
	for range 500 {
		var lines []string
		for range random.Intn(9) {
			line := "x"
			for length := random.Intn(api.MaxLine - 4); len(line) < length; {
				line += parts[random.Intn(len(parts))]
			}
			lines = append(lines, line)
		}
		checkBack(t, lines)
	}
}

// R3

// shares reports whether two texts that are not empty have a byte of memory in common.
func shares(a, b string) bool {
	first, second := uintptr(unsafe.Pointer(unsafe.StringData(a))), uintptr(unsafe.Pointer(unsafe.StringData(b)))
	return first < second+uintptr(len(b)) && second < first+uintptr(len(a))
}

func TestFoldMemory(t *testing.T) {
	for _, lines := range [][]string{{"ab", "c", letters(200), "spare", "more"}, {"ab", " ", "c", "spare"}, {letters(2001), "spare"}, {"a\n", "spare"}} {
		before := slices.Clone(lines)
		s, _ := fold.Fold(lines[:len(lines)-1])
		again, _ := fold.Fold(lines[:len(lines)-1])
		if !slices.Equal(lines, before) {
			t.Errorf("Fold changed %q to %q", before, lines)
		}
		for _, line := range lines {
			if s != "" && shares(s, line) {
				t.Errorf("the folded lines share memory with %q", line)
			}
		}
		if s != "" && shares(s, again) {
			t.Error("two results share memory")
		}
	}
}

func TestUnfoldMemory(t *testing.T) {
	for _, s := range []string{"ab\r\ncd\n", "ab\n cd\n", "abcdef\n", "ab\n \nc\r\n", letters(2000) + "\n"} {
		before := strings.Clone(s)
		lines, _, e := fold.Unfold(s)
		again, _, _ := fold.Unfold(s)
		if e != api.OK || s != before {
			t.Errorf("Unfold(%q) = %v, and left %q", before, e, s)
		}
		want := slices.Clone(again)
		for i, line := range lines {
			if shares(line, s) {
				t.Errorf("the line %q shares memory with the text", line)
			}
			lines[i] = "changed"
		}
		lines = lines[:cap(lines)]
		for i := range lines {
			lines[i] = "changed"
		}
		if third, _, _ := fold.Unfold(s); !slices.Equal(again, want) || !slices.Equal(third, want) {
			t.Errorf("a change of one result of Unfold(%q) is seen in %q or %q", s, again, third)
		}
	}
}

// P5

// FuzzUnfold holds whatever is unfolded against another way of doing it, and folds it again.
func FuzzUnfold(f *testing.F) {
	for _, s := range []string{"", "a", "a\r\n", "a\n b\r\n", "a\n\tb\nc\n", " a\n", "a\rb\n", "a\xc3\r\n \xa9\r\n", "\xff\n", byBytes(letters(2001))} {
		f.Add(s)
	}
	u := byExpressions()
	f.Fuzz(func(t *testing.T, s string) {
		if len(s) > api.MaxObject {
			checkNoUnfold(t, s, 0, api.ErrLong)
			return
		}
		checkAgainst(t, u, s)
		lines, _, e := fold.Unfold(s)
		if e != api.OK {
			return
		}
		if _, e := fold.Fold(lines); e == api.ErrLong {
			return
		}
		checkBack(t, lines)
	})
}

// FuzzFold holds whatever is folded against another way of doing it.
func FuzzFold(f *testing.F) {
	for _, line := range append(append(wide(), broken()...), "", "a", " a", "a\r", letters(2001)) {
		f.Add(letters(72)+line, line)
	}
	f.Fuzz(func(t *testing.T, a, b string) {
		want := ""
		for _, line := range []string{a, b} {
			if line == "" || line[0] == ' ' || line[0] == '\t' || strings.ContainsAny(line, "\r\n") {
				checkNoFold(t, []string{a, b}, api.ErrSyntax)
				return
			}
		}
		for _, line := range []string{a, b} {
			if len(line) > api.MaxLine {
				checkNoFold(t, []string{a, b}, api.ErrLong)
				return
			}
			want += foldedBack(line)
		}
		checkFold(t, []string{a, b}, want)
		if valid(a) && valid(b) {
			checkBack(t, []string{a, b})
		}
	})
}
