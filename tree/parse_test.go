package tree_test

import (
	"fmt"
	"math/rand"
	"regexp"
	"slices"
	"strings"
	"testing"
	"unsafe"

	"tryst/api"
	"tryst/fold"
	"tryst/line"
	"tryst/tree"
)

func checkParse(t *testing.T, s string, want tree.Tree) {
	t.Helper()
	if c, n, e := tree.Parse(s); show(c) != show(want) || n != 0 || e != api.OK {
		t.Errorf("Parse(%.300q) = %.300q, %d, %v, want %.300q, 0, OK", s, c, n, e, want)
	}
}

func checkNoParse(t *testing.T, s string, number int, want api.Errno) {
	t.Helper()
	if c, n, e := tree.Parse(s); show(c) != show(tree.Tree{}) || n != number || e != want {
		t.Errorf("Parse(%.300q) = %.300q, %d, %v, want no component, %d, %v", s, c, n, e, number, want)
	}
}

// checkBack checks P11.3 for a valid component, and that what is printed has lines of at most 75 bytes.
func checkBack(t *testing.T, c tree.Tree) {
	t.Helper()
	s, e := tree.Print(c)
	if e == api.ErrLong {
		return
	}
	if e != api.OK {
		t.Errorf("Print(%.300q) = %v", c, e)
	}
	for _, piece := range strings.SplitAfter(s, "\r\n") {
		if len(piece) > 77 {
			t.Errorf("Print(%.300q) has the piece %q", c, piece)
		}
	}
	checkParse(t, s, c)
}

// text ends each of the lines.
func text(lines ...string) string {
	s := ""
	for _, l := range lines {
		s += l + "\r\n"
	}
	return s
}

// The other way: each line is a word, <NAME; for a BEGIN, >NAME; for an END and a dot for any other. A
// component that is complete is replaced by a k, until none is left: then a k alone is the end, and all
// else has to be components that are open, each with its dots ahead of its ks.

var openOnes = regexp.MustCompile(`\A(?:<[A-Z0-9-]+;\.*k*)+\z`)

// wantWord returns the word of a line, or nothing if it has none.
func wantWord(l line.Line) string {
	mark := map[string]string{"BEGIN": "<", "END": ">"}[l.Name]
	if mark == "" {
		return "."
	}
	// Parse of layer 10 reads a name in upper case, too.
	named, _, e := line.Parse(l.Value + ":")
	if len(l.Params) != 0 || e != api.OK || len(named.Params) != 0 || named.Value != "" {
		return ""
	}
	return mark + named.Name + ";"
}

// replaced returns the words after all replacements.
func replaced(words string) string {
	at := strings.LastIndex(words, ">")
	if at < 0 {
		return words
	}
	name := words[at+1:]
	return regexp.MustCompile(`<`+name+`\.*k*>`+name+`\z`).ReplaceAllString(words, "k")
}

// wantParse returns the lines of the component that is read, as written has them.
func wantParse(s string) ([]string, int, api.Errno) {
	texts, piece, e := fold.Unfold(s)
	if e != api.OK {
		return nil, piece, e
	}
	words := ""
	var all []string
	for i, text := range texts {
		l, _, e := line.Parse(text)
		if e != api.OK {
			return nil, i + 1, e
		}
		if i == api.MaxLines {
			return nil, i + 1, api.ErrMany
		}
		word := wantWord(l)
		if words == "k" || words == "" && l.Name != "BEGIN" || word == "" {
			return nil, i + 1, api.ErrSyntax
		}
		words = replaced(words + word)
		if strings.Count(words, "<") == api.MaxNest+1 {
			return nil, i + 1, api.ErrNest
		}
		if words != "k" && !openOnes.MatchString(words) {
			return nil, i + 1, api.ErrSyntax
		}
		if word != "." {
			all = append(all, word)
		} else {
			all = append(all, fmt.Sprintf("%q", l))
		}
	}
	if words != "k" {
		return nil, len(texts) + 1, api.ErrSyntax
	}
	return all, 0, api.OK
}

// written returns the lines of c. No two components have the same ones.
func written(c tree.Tree) []string {
	all := []string{"<" + c.Name + ";"}
	for _, l := range c.Lines {
		all = append(all, fmt.Sprintf("%q", l))
	}
	for _, kid := range c.Kids {
		all = append(all, written(kid)...)
	}
	return append(all, ">"+c.Name+";")
}

// checkAny holds Parse against its other way, and reports whether s is a component.
func checkAny(t *testing.T, s string) bool {
	t.Helper()
	want, n, e := wantParse(s)
	if e != api.OK {
		checkNoParse(t, s, n, e)
		return false
	}
	c, n, e := tree.Parse(s)
	if !slices.Equal(written(c), want) || n != 0 || e != api.OK {
		t.Errorf("Parse(%.300q) = %.300q, %d, %v, want %.300q, 0, OK", s, c, n, e, want)
	}
	if tree.Count(c) != len(want) {
		t.Errorf("Count(%.300q) = %d, want %d", c, tree.Count(c), len(want))
	}
	if !tree.Formed(c) {
		t.Errorf("Formed(%.300q) = false", c)
	}
	checkBack(t, c)
	return true
}

// P11.2: what is read

func TestParseOrdinary(t *testing.T) {
	checkParse(t, "BEGIN:A\r\nEND:A\r\n", of("A", nil))
	checkParse(t, "BEGIN:A\nEND:A\n", of("A", nil))
	checkParse(t, text("BEGIN:A", "X:y", "X:y", "Z:", "END:A"), of("A", lines("X", "y", "X", "y", "Z", "")))
	checkParse(t, text("BEGIN:A", "X:1", "BEGIN:B", "X:2", "BEGIN:C", "X:3", "END:C", "BEGIN:D", "END:D", "END:B", "BEGIN:B", "END:B", "END:A"),
		of("A", lines("X", "1"), of("B", lines("X", "2"), of("C", lines("X", "3")), of("D", nil)), of("B", nil)))
	params := []line.Param{{Name: "P", Values: []string{"q:", "\n"}}, {Name: "R", Values: []string{""}}}
	checkParse(t, text("BEGIN:A", `X;P="q:",^n;R=:BEGIN:A`, "END:A"), of("A", []line.Line{{Name: "X", Params: params, Value: "BEGIN:A"}}))
	checkParse(t, text("BEGIN:END", "BEGIN:BEGIN", "END:BEGIN", "END:END"), of("END", nil, of("BEGIN", nil)))
	checkParse(t, text("BEGIN:A", "BEGINS:A", "ENDS:A", "-END:A", "END:A"), of("A", lines("BEGINS", "A", "ENDS", "A", "-END", "A")))
	// The components next to each other may be the same.
	checkParse(t, text("BEGIN:A", "BEGIN:A", "END:A", "BEGIN:A", "BEGIN:A", "END:A", "END:A", "END:A"), of("A", nil, of("A", nil), of("A", nil, of("A", nil))))
}

func TestParseLowerCase(t *testing.T) {
	checkParse(t, "begin:vevent\nsummary:Abc\nend:vevent\n", of("VEVENT", lines("SUMMARY", "Abc")))
	for _, s := range []string{"BEGIN:vEvent", "begin:VEVENT", "Begin:Vevent", "beGIN:vevent"} {
		for _, e := range []string{"END:vEVENT", "end:VEVENT", "eNd:vevent", "END:VEVENT"} {
			checkParse(t, text(s, "x-y:z", e), of("VEVENT", lines("X-Y", "z")))
			checkParse(t, text("BEGIN:a", s, e, "END:A"), of("A", nil, of("VEVENT", nil)))
		}
	}
	all := "abcdefghijklmnopqrstuvwxyz0123456789-"
	checkParse(t, text("BEGIN:"+all, "END:"+all), of(strings.ToUpper(all), nil))
	checkParse(t, text("BEGIN:"+strings.ToUpper(all), "END:"+all), of(strings.ToUpper(all), nil))
	checkParse(t, text("BEGIN:a", "begin:b", "END:b", "END:a"), of("A", nil, of("B", nil)))
}

func TestParseFolded(t *testing.T) {
	checkParse(t, "BEG\r\n IN:\n\tA\r\n \r\nX\n :y\n  z\r\nEN\n\tD:A\n \n", of("A", lines("X", "y z")))
	checkParse(t, "BEGIN:A\nX:\xc3\n \xa9\nEND:A\n", of("A", lines("X", "é")))
	checkParse(t, "BEGIN:A\nX:y\n END:A\nEND:A\n", of("A", lines("X", "yEND:A")))
}

// P11.2: errors of Unfold, with the number of a piece

func TestParseUnfold(t *testing.T) {
	valid := text("BEGIN:A", "X:y", "END:A")
	for _, c := range []struct {
		s      string
		number int
		errno  api.Errno
	}{
		{"BEGIN:A", 1, api.ErrSyntax}, {"BEGIN:A\r\nEND:A", 2, api.ErrSyntax}, {"BEGIN:A\nX:y\n z\nEND:A", 4, api.ErrSyntax},
		{"\n", 1, api.ErrSyntax}, {valid + "\n", 4, api.ErrSyntax}, {"BEGIN:A\n\nEND:A\n", 2, api.ErrSyntax}, {"BEGIN:A\n \n\r\nEND:A\n", 3, api.ErrSyntax},
		{" BEGIN:A\nEND:A\n", 1, api.ErrSyntax}, {"\t\n", 1, api.ErrSyntax},
		{"BEGIN:A\r\rEND:A\n", 1, api.ErrSyntax}, {"BEGIN:A\nX:y\n z\rw\nEND:A\n", 3, api.ErrSyntax},
		// A piece counts, not a line, and the first one of the line.
		{"BEGIN:A\n \n \nX:\xff\nEND:A\n", 4, api.ErrUTF}, {"BEGIN:A\n \nX:\n \n \xff\nEND:A\n", 3, api.ErrUTF},
		{"BEGIN:A\n \nX:" + strings.Repeat("y", api.MaxLine-1) + "\nEND:A\n", 3, api.ErrLong},
		{"BEGIN:A\n \nX:\n " + strings.Repeat("y", api.MaxLine-2) + "\n z\nEND:A\n", 3, api.ErrLong},
		{valid + strings.Repeat("x", api.MaxObject), 0, api.ErrLong}, {strings.Repeat("\xff", api.MaxObject+1), 0, api.ErrLong},
		// All of them come ahead of the errors of a line, wherever they stand.
		{"x\nBEGIN:A", 2, api.ErrSyntax}, {"END:A\n\n", 2, api.ErrSyntax}, {"x\n \n \n\xff\n", 4, api.ErrUTF}, {"\x01\n" + strings.Repeat("y", api.MaxLine+1) + "\n", 2, api.ErrLong},
		{"x\n" + strings.Repeat("y\n", api.MaxObject/2), 0, api.ErrLong},
		{strings.Repeat("BEGIN:A\n", 20) + "\xff\n", 21, api.ErrUTF}, {"BEGIN:A\n" + strings.Repeat("X:\n", api.MaxLines) + "\r", 302, api.ErrSyntax},
	} {
		checkNoParse(t, c.s, c.number, c.errno)
		if _, n, e := fold.Unfold(c.s); n != c.number || e != c.errno {
			t.Errorf("Unfold(%.300q) = %d, %v", c.s, n, e)
		}
	}
}

// TestParseMaxObject has texts of MaxObject bytes, and of one byte more.
func TestParseMaxObject(t *testing.T) {
	body := strings.Repeat("X:"+strings.Repeat("y", 197)+"\n", 99)
	s := "BEGIN:A\n" + body
	s += "Z:" + strings.Repeat("w", api.MaxObject-len(s)-len("Z:\nEND:A\n")) + "\nEND:A\n"
	if c, n, e := tree.Parse(s); len(s) != api.MaxObject || tree.Count(c) != 102 || n != 0 || e != api.OK {
		t.Errorf("%d bytes, %d lines, %d, %v", len(s), tree.Count(c), n, e)
	}
	// With its folds it has no text.
	c, _, _ := tree.Parse(s)
	checkTooLong(t, c)
	checkNoParse(t, strings.Replace(s, "END:A\n", "END:A\r\n", 1), 0, api.ErrLong)
	checkNoParse(t, s+"X", 0, api.ErrLong)
}

// P11.2: errors of a line, each by itself

// TestParseLineErrors has each error of Parse of layer 10 that a line of UTF-8 may have.
func TestParseLineErrors(t *testing.T) {
	many := "X"
	for i := range api.MaxList + 1 {
		many += fmt.Sprintf(";P%d=", i)
	}
	for _, c := range []struct {
		l     string
		errno api.Errno
	}{
		{"x", api.ErrSyntax}, {":", api.ErrSyntax}, {"X;P:y", api.ErrSyntax}, {"é:", api.ErrSyntax}, {"BEGIN", api.ErrSyntax}, {"END", api.ErrSyntax}, {"BEGIN;A", api.ErrSyntax}, {"BEGIN A", api.ErrSyntax},
		{strings.Repeat("X", api.MaxName+1) + ":", api.ErrSyntax}, {`X;P="q`, api.ErrSyntax},
		{"X:\x01", api.ErrValue}, {"X;P=\x01:", api.ErrValue}, {"BEGIN:\x01", api.ErrValue}, {"END:A\x7f", api.ErrValue}, {"BEGIN;P=\x01:A", api.ErrValue},
		{"X;P=q;P=r:", api.ErrMany}, {many + ":", api.ErrMany}, {"X;P=" + strings.Repeat(",", api.MaxList) + ":", api.ErrMany}, {"BEGIN;P=q;P=r:A", api.ErrMany},
	} {
		if _, _, e := line.Parse(c.l); e != c.errno {
			t.Errorf("Parse of layer 10 of %q = %v", c.l, e)
		}
		checkNoParse(t, text(c.l), 1, c.errno)
		checkNoParse(t, text("BEGIN:A", c.l, "END:A"), 2, c.errno)
		checkNoParse(t, text("BEGIN:A", "X:y", c.l, "END:A"), 3, c.errno)
		checkNoParse(t, text("BEGIN:A", "BEGIN:B", c.l, "END:B", "END:A"), 3, c.errno)
		// Ahead of the other errors of that line: behind a nested component, behind the end, too deep, too many.
		checkNoParse(t, text("BEGIN:A", "BEGIN:B", "END:B", c.l, "END:A"), 4, c.errno)
		checkNoParse(t, text("BEGIN:A", "END:A", c.l), 3, c.errno)
		checkNoParse(t, text("BEGIN:A", "BEGIN:A", "BEGIN:A", "BEGIN:A", c.l), 5, c.errno)
		checkNoParse(t, text("BEGIN:A")+strings.Repeat("X:\n", api.MaxLines-1)+text(c.l), api.MaxLines+1, c.errno)
		// Folded lines count once.
		checkNoParse(t, "BEG\n IN:A\n \nX:\n \n y\n \n"+text(c.l), 3, c.errno)
	}
}

func TestParseMaxLines(t *testing.T) {
	const most = api.MaxLines
	full := "BEGIN:A\n" + strings.Repeat("X:\n", most-2) + "END:A\n"
	c, n, e := tree.Parse(full)
	if tree.Count(c) != most || n != 0 || e != api.OK {
		t.Errorf("%d lines, %d, %v", tree.Count(c), n, e)
	}
	checkAny(t, full)
	nested := "BEGIN:A\n" + strings.Repeat("BEGIN:B\nEND:B\n", most/2-1) + "END:A\n"
	checkAny(t, nested)
	if c, n, e := tree.Parse(nested); len(c.Kids) != most/2-1 || n != 0 || e != api.OK {
		t.Errorf("%d components, %d, %v", len(c.Kids), n, e)
	}
	// Each kind of line may be the one that is too many, and errors of the lines behind it do not count.
	open := "BEGIN:A\n" + strings.Repeat("X:\n", most-1)
	behindNested := "BEGIN:A\n" + strings.Repeat("BEGIN:B\nEND:B\n", most/2-1) + "BEGIN:B\n"
	deep := strings.Repeat("BEGIN:A\n", api.MaxNest) + strings.Repeat("X:\n", most-api.MaxNest)
	for _, before := range []string{open, behindNested, full, nested, deep} {
		for _, l := range []string{"X:y", "END:A", "END:B", "BEGIN:B", "BEGIN;P=q:A", "BEGIN:", "END:x y"} {
			checkNoParse(t, before+text(l), most+1, api.ErrMany)
			checkNoParse(t, before+text(l, "x", "\x01"), most+1, api.ErrMany)
		}
	}
	// A line is what is unfolded.
	folded := "BEGIN:A\n" + strings.Repeat("X:\n \n y\n", most-2) + "END:\n A\n \n"
	if c, n, e := tree.Parse(folded); tree.Count(c) != most || n != 0 || e != api.OK {
		t.Errorf("%d lines, %d, %v", tree.Count(c), n, e)
	}
	checkNoParse(t, folded+"X:\n", most+1, api.ErrMany)
	// The last line that may be is still held against what is open.
	checkNoParse(t, open, most+1, api.ErrSyntax)
	checkNoParse(t, open[:len(open)-3]+"END:B\n", most, api.ErrSyntax)
	checkNoParse(t, deep[:len(deep)-3]+"BEGIN:A\n", most, api.ErrNest)
	checkNoParse(t, "BEGIN:A\n"+strings.Repeat("X:\n", most)+"END:A\n", most+1, api.ErrMany)
}

func TestParseBehindEnd(t *testing.T) {
	for _, l := range []string{"X:y", "BEGIN:A", "BEGIN:B", "END:A", "END:B", "BEGIN:", "END;P=q:A", "begin:a"} {
		checkNoParse(t, text("BEGIN:A", "END:A", l), 3, api.ErrSyntax)
		checkNoParse(t, text("BEGIN:A", "END:A", l, "END:A"), 3, api.ErrSyntax)
		checkNoParse(t, text("BEGIN:A", "X:y", "BEGIN:B", "END:B", "END:A", l), 6, api.ErrSyntax)
		checkNoParse(t, "BEGIN\n :A\n \nEND\n \n :A\n"+text(l), 3, api.ErrSyntax)
	}
	// Two components are not one.
	checkNoParse(t, text("BEGIN:A", "END:A", "BEGIN:B", "END:B"), 3, api.ErrSyntax)
}

func TestParseNoBegin(t *testing.T) {
	for _, l := range []string{"X:y", "END:A", "END:", "END;P=q:A", "BEGINS:A", "X;P=q:y", "A:BEGIN"} {
		checkNoParse(t, text(l), 1, api.ErrSyntax)
		checkNoParse(t, text(l, "BEGIN:A", "END:A"), 1, api.ErrSyntax)
	}
}

// notNames returns values of lines that are not names.
func notNames() []string {
	return []string{
		"", " ", "A ", " A", "A B", "A:", "A;", "A;P=q", "A=", "A,B", "A_B", "A.B", "A\t", "\"A\"", "\\A", "^A", "é", "aé", "\u212a", "\u017f", "A\u017f", "\u0131", "Ａ", "ａ", "０", "😀",
		strings.Repeat("A", api.MaxName+1), strings.Repeat("a", api.MaxName+1), strings.Repeat("A", api.MaxLine-len("BEGIN:")),
	}
}

func TestParseMarks(t *testing.T) {
	for _, value := range notNames() {
		begin, end := "BEGIN:"+value, "END:"+value
		checkNoParse(t, text(begin), 1, api.ErrSyntax)
		checkNoParse(t, text(begin, end), 1, api.ErrSyntax)
		checkNoParse(t, text("BEGIN:A", begin, "END:A"), 2, api.ErrSyntax)
		checkNoParse(t, text("BEGIN:A", end), 2, api.ErrSyntax)
		checkNoParse(t, text("BEGIN:A", "BEGIN:B", "END:B", begin), 4, api.ErrSyntax)
		checkNoParse(t, text("BEGIN:A", "BEGIN:B", "END:B", end), 4, api.ErrSyntax)
		// Ahead of the nesting.
		checkNoParse(t, text("BEGIN:A", "BEGIN:A", "BEGIN:A", "BEGIN:A", begin), 5, api.ErrSyntax)
		checkNoParse(t, "BEGIN:A\n \n \n"+text("X:y", begin), 3, api.ErrSyntax)
	}
	for _, params := range []string{";P=q", ";P=", ";P=q,r;S=t", `;VALUE="TEXT"`} {
		checkNoParse(t, text("BEGIN"+params+":A"), 1, api.ErrSyntax)
		checkNoParse(t, text("BEGIN"+params+":A", "END:A"), 1, api.ErrSyntax)
		checkNoParse(t, text("begin"+params+":a", "END:A"), 1, api.ErrSyntax)
		checkNoParse(t, text("BEGIN:A", "END"+params+":A"), 2, api.ErrSyntax)
		checkNoParse(t, text("BEGIN:A", "end"+params+":a"), 2, api.ErrSyntax)
		checkNoParse(t, text("BEGIN:A", "BEGIN"+params+":B", "END:B", "END:A"), 2, api.ErrSyntax)
		checkNoParse(t, text("BEGIN:A", "BEGIN:B", "END"+params+":B", "END:A"), 3, api.ErrSyntax)
		checkNoParse(t, text("BEGIN:A", "BEGIN:A", "BEGIN:A", "BEGIN:A", "BEGIN"+params+":A"), 5, api.ErrSyntax)
	}
	long := strings.Repeat("a", api.MaxName)
	checkParse(t, text("BEGIN:"+long, "END:"+long), of(strings.ToUpper(long), nil))
}

// TestParseMarksEachByte has each byte that a line may have as a name, alone and behind a letter.
func TestParseMarksEachByte(t *testing.T) {
	for i := range 128 {
		c := byte(i)
		if c == 127 || c < 32 && c != '\t' {
			continue
		}
		for _, s := range []string{string([]byte{c}), "A" + string([]byte{c}), string([]byte{c}) + "z"} {
			if name := strings.ToUpper(s); line.Name(name) {
				checkParse(t, text("BEGIN:"+s, "END:"+s), of(name, nil))
			} else {
				checkNoParse(t, text("BEGIN:"+s, "END:"+s), 1, api.ErrSyntax)
				checkNoParse(t, text("BEGIN:A", "END:"+s), 2, api.ErrSyntax)
			}
		}
	}
}

func TestParseNest(t *testing.T) {
	for depth := 1; depth <= 3*api.MaxNest; depth++ {
		begins, ends := strings.Repeat("BEGIN:N\n", depth), strings.Repeat("END:N\n", depth)
		if depth <= api.MaxNest {
			checkParse(t, begins+ends, chain(depth))
			continue
		}
		checkNoParse(t, begins+ends, api.MaxNest+1, api.ErrNest)
		checkNoParse(t, begins, api.MaxNest+1, api.ErrNest)
	}
	deep := strings.Repeat("BEGIN:N\n", api.MaxNest)
	checkNoParse(t, deep+"X:y\nBEGIN:M\n", api.MaxNest+2, api.ErrNest)
	checkNoParse(t, deep+"END:N\nBEGIN:N\nBEGIN:N\n", api.MaxNest+3, api.ErrNest)
	checkNoParse(t, deep+"END:N\nEND:N\nBEGIN:N\nBEGIN:N\nBEGIN:N\n", api.MaxNest+5, api.ErrNest)
	checkNoParse(t, strings.Replace(deep, "N\n", "N\n \n \n", 2)+"BEGIN:M\n", api.MaxNest+1, api.ErrNest)
	// As many as there may be next to each other.
	pair := "BEGIN:B\nBEGIN:C\nBEGIN:D\nEND:D\nBEGIN:D\nEND:D\nEND:C\nEND:B\n"
	if c, n, e := tree.Parse("BEGIN:A\n" + strings.Repeat(pair, 30) + "END:A\n"); len(c.Kids) != 30 || len(c.Kids[29].Kids[0].Kids) != 2 || n != 0 || e != api.OK {
		t.Error(n, e)
	}
}

func TestParseEndsThatDoNotMatch(t *testing.T) {
	for _, name := range []string{"B", "AA", "b", "A-", "BEGIN", "END", "0"} {
		checkNoParse(t, text("BEGIN:A", "END:"+name), 2, api.ErrSyntax)
		checkNoParse(t, text("BEGIN:A", "X:y", "END:"+name, "END:A"), 3, api.ErrSyntax)
		checkNoParse(t, text("BEGIN:"+name, "BEGIN:A", "END:"+name, "END:A"), 3, api.ErrSyntax)
		checkNoParse(t, text("BEGIN:A", "BEGIN:C", "END:C", "END:"+name), 4, api.ErrSyntax)
		checkNoParse(t, text("BEGIN:A", "BEGIN:B", "BEGIN:C", "BEGIN:D", "END:"+name), 5, api.ErrSyntax)
		checkNoParse(t, "BEGIN:A\nX:\n \n y\n"+text("END:"+name), 3, api.ErrSyntax)
	}
	// One that has ended is not open any more.
	checkNoParse(t, text("BEGIN:A", "BEGIN:B", "END:B", "END:B"), 4, api.ErrSyntax)
}

func TestParseBehindNested(t *testing.T) {
	for _, l := range []string{"X:y", "X;P=q:y", "BEGINS:A", "ENDS:A", "x:"} {
		checkNoParse(t, text("BEGIN:A", "BEGIN:B", "END:B", l, "END:A"), 4, api.ErrSyntax)
		checkNoParse(t, text("BEGIN:A", "X:y", "BEGIN:B", "X:y", "END:B", "BEGIN:B", "END:B", l, "END:A"), 8, api.ErrSyntax)
		checkNoParse(t, text("BEGIN:A", "BEGIN:B", "BEGIN:C", "END:C", l, "END:B", "END:A"), 5, api.ErrSyntax)
		checkNoParse(t, text("BEGIN:A", "BEGIN:B", "BEGIN:C", "BEGIN:D", "END:D", l), 6, api.ErrSyntax)
		checkNoParse(t, text("BEGIN:A", "BEGIN:B", "BEGIN:C", "END:C", "END:B", l, "END:A"), 6, api.ErrSyntax)
		checkNoParse(t, "BEGIN:A\n \nBEGIN\n \n :B\nEND:B\n \n"+text(l, "END:A"), 4, api.ErrSyntax)
		// A component next to one that has nested ones has lines of its own.
		if _, n, e := tree.Parse(text("BEGIN:A", "BEGIN:B", "BEGIN:C", "END:C", "END:B", "BEGIN:B", l, "END:B", "END:A")); n != 0 || e != api.OK {
			t.Errorf("%d, %v", n, e)
		}
	}
}

// TestParseOpen leaves a component open after each of its lines.
func TestParseOpen(t *testing.T) {
	checkNoParse(t, "", 1, api.ErrSyntax)
	all := []string{"BEGIN:A", "X:y", "X:y", "BEGIN:B", "X:y", "BEGIN:C", "BEGIN:D", "X:y", "END:D", "BEGIN:D", "END:D", "END:C", "END:B", "BEGIN:B", "END:B", "END:A"}
	for n := range len(all) {
		checkNoParse(t, text(all[:n]...), n+1, api.ErrSyntax)
		checkNoParse(t, strings.ReplaceAll(text(all[:n]...), ":", "\n \n :"), n+1, api.ErrSyntax)
	}
	checkAny(t, text(all...))
	for depth := 1; depth <= api.MaxNest; depth++ {
		begins := strings.Repeat("BEGIN:N\n", depth)
		checkNoParse(t, begins, depth+1, api.ErrSyntax)
		for ends := 1; ends < depth; ends++ {
			checkNoParse(t, begins+strings.Repeat("END:N\n", ends), depth+ends+1, api.ErrSyntax)
		}
	}
}

// TestParseFirstLine has two errors at different lines: the first line counts, whatever its error is.
func TestParseFirstLine(t *testing.T) {
	before := []string{"BEGIN:A", "BEGIN:B", "BEGIN:C", "BEGIN:D", "END:D"}
	faults := []struct {
		l     string
		errno api.Errno
	}{
		{"x", api.ErrSyntax}, {"X:\x01", api.ErrValue}, {"X;P=;P=:", api.ErrMany}, {"X:y", api.ErrSyntax}, {"END:D", api.ErrSyntax},
		{"BEGIN:", api.ErrSyntax}, {"END;P=q:C", api.ErrSyntax},
	}
	for _, a := range faults {
		for _, b := range faults {
			checkNoParse(t, text(append(before, a.l, b.l)...), 6, a.errno)
			checkNoParse(t, text(append(before, "BEGIN:D", "BEGIN:E", a.l, b.l)...), 7, api.ErrNest)
			checkNoParse(t, text(append(before, a.l, "BEGIN:D", "BEGIN:E", b.l)...), 6, a.errno)
			checkNoParse(t, text(append(before, "END:C", "END:B", "END:A", "X:y", a.l, b.l)...), 9, api.ErrSyntax)
		}
		checkNoParse(t, text(append(before, a.l)...)+strings.Repeat("X:y\n", api.MaxLines), 6, a.errno)
	}
}

// TestParseOrderAtOneLine has several errors at one line: the one that the chapter names first counts.
func TestParseOrderAtOneLine(t *testing.T) {
	const most = api.MaxLines
	deep := text("BEGIN:A", "BEGIN:B", "BEGIN:C", "BEGIN:D")
	full := deep + strings.Repeat("X:\n", most-api.MaxNest)
	for _, c := range []struct {
		before, l string
		number    int
		errno     api.Errno
	}{
		// 1 ahead of 2, 3, 4 and 5.
		{full, "BEGIN:\x01", most + 1, api.ErrValue}, {full, "x", most + 1, api.ErrSyntax}, {full, "X;P=;P=:", most + 1, api.ErrMany},
		{text("BEGIN:A", "END:A"), "X:\x01", 3, api.ErrValue}, {"", "X:\x01", 1, api.ErrValue}, {"", "END;P=\x01:A", 1, api.ErrValue},
		{deep, "BEGIN:D\x01", 5, api.ErrValue}, {deep, "BEGIN;P=;P=:D", 5, api.ErrMany}, {deep, "END:A\x01", 5, api.ErrValue}, {deep + "END:D\n", "X:\x01", 6, api.ErrValue},
		// 2 ahead of 3, 4 and 5.
		{full, "BEGIN:", most + 1, api.ErrMany}, {full, "END;P=q:D", most + 1, api.ErrMany}, {full, "BEGIN:E", most + 1, api.ErrMany}, {full, "END:A", most + 1, api.ErrMany},
		// 3 ahead of 4: a BEGIN that is too deep and is no BEGIN of a component.
		{deep, "BEGIN:", 5, api.ErrSyntax}, {deep, "BEGIN;P=q:E", 5, api.ErrSyntax}, {deep, "BEGIN:E F", 5, api.ErrSyntax},
		// 4 alone, also behind a nested component.
		{deep, "BEGIN:E", 5, api.ErrNest}, {text("BEGIN:A", "BEGIN:B", "BEGIN:C", "BEGIN:D", "END:D", "BEGIN:D"), "BEGIN:E", 7, api.ErrNest},
	} {
		checkNoParse(t, c.before+text(c.l), c.number, c.errno)
		checkAny(t, c.before+text(c.l))
	}
}

// P11.2 and P11.3 at once

// TestParseEachShortText tries all texts of up to five of the lines that matter.
func TestParseEachShortText(t *testing.T) {
	alphabet := []string{"BEGIN:A\n", "begin:b\r\n", "END:A\n", "end:b\n", "X:y\n", "BEGIN;P=q:A\n", "END:\n", "X:\x01\n"}
	texts := []string{""}
	for range 5 {
		var longer []string
		for _, s := range texts {
			for _, l := range alphabet {
				longer = append(longer, s+l)
			}
		}
		for _, s := range longer {
			checkAny(t, s)
		}
		if t.Failed() {
			return
		}
		texts = longer
	}
}

// TestParseEachBeginning goes on with each text that begins a component, up to nine lines.
func TestParseEachBeginning(t *testing.T) {
	alphabet := []string{"BEGIN:A\n", "BEGIN:B\n", "END:A\n", "END:B\n", "X:y\n"}
	texts := []string{""}
	for n := range 9 {
		var longer []string
		for _, s := range texts {
			for _, l := range alphabet {
				// It begins a component, or is one, if no line of it has an error.
				checkAny(t, s+l)
				if _, number, _ := wantParse(s + l); number > n+1 {
					longer = append(longer, s+l)
				}
			}
		}
		if t.Failed() {
			return
		}
		texts = longer
	}
}

// randomLine returns a valid line.
func randomLine(random *rand.Rand) line.Line {
	parts := []string{"a", "N", " ", "\t", ":", ";", ",", "=", `"`, "^", "'", `\`, "é", "€", "😀", "\u0085", strings.Repeat("z", 70)}
	some := func(parts []string) string {
		s := ""
		for range random.Intn(6) {
			s += parts[random.Intn(len(parts))]
		}
		return s
	}
	l := line.Line{Name: "X-" + strings.Repeat("Y", random.Intn(3)), Value: some(parts)}
	for i := range random.Intn(3) {
		l.Params = append(l.Params, line.Param{Name: fmt.Sprint("P", i), Values: []string{some(append(parts, "\n"))}})
		for range random.Intn(3) {
			l.Params[i].Values = append(l.Params[i].Values, some(parts))
		}
	}
	return l
}

// randomTree returns a valid component that is nested at most that deep.
func randomTree(random *rand.Rand, depth int) tree.Tree {
	names := []string{"A", "B", "VEVENT", "X-1", "BEGIN", "END"}
	c := tree.Tree{Name: names[random.Intn(len(names))]}
	for range random.Intn(4) {
		c.Lines = append(c.Lines, randomLine(random))
	}
	if depth > 1 {
		for range random.Intn(4) {
			c.Kids = append(c.Kids, randomTree(random, depth-1))
		}
	}
	return c
}

func TestPrintedIsParsed(t *testing.T) {
	random := rand.New(rand.NewSource(11))
	for range 3000 {
		c := randomTree(random, 1+random.Intn(api.MaxNest))
		// Too many lines are the only fault it may have.
		if tree.Formed(c) != (tree.Count(c) <= api.MaxLines) {
			t.Errorf("Formed(%.300q) = %v", c, tree.Formed(c))
		}
		if tree.Count(c) <= api.MaxLines {
			checkBack(t, c)
		}
		checkEqual(t, c, copied(c), true)
	}
}

// TestParseRandom changes printed components line by line.
func TestParseRandom(t *testing.T) {
	random := rand.New(rand.NewSource(112))
	more := []string{"BEGIN:A", "END:A", "begin:b", "end:vevent", "X:y", "x", "X:\x01", "BEGIN:", "END;P=q:A", "X;P=;P=:", "BEGIN:é", ""}
	good := 0
	for range 3000 {
		s, e := tree.Print(randomTree(random, 1+random.Intn(api.MaxNest+1)))
		if e != api.OK {
			continue
		}
		all := strings.Split(strings.TrimSuffix(s, "\r\n"), "\r\n")
		for range random.Intn(4) {
			at := random.Intn(len(all))
			switch random.Intn(5) {
			case 0:
				all = slices.Insert(slices.Clone(all), at, more[random.Intn(len(more))])
			case 1:
				all = slices.Concat(all[:at], all[at+1:], all[:1])
			case 2:
				all[at], all[0] = all[0], all[at]
			case 3:
				all[at] = strings.ToLower(all[at])
			case 4:
				all[at] += "\n z"
			}
		}
		if checkAny(t, strings.Join(all, "\n")+"\n") {
			good++
		}
	}
	if good < 300 {
		t.Errorf("only %d texts are components", good)
	}
}

// TestParsedIsTooLong reads a text whose component is written with more bytes: each ^ that stands for
// itself is written twice.
func TestParsedIsTooLong(t *testing.T) {
	value := strings.Repeat("^x", (api.MaxLine-len("X;P=:"))/2)
	s := text("BEGIN:A", "X;P="+value+":", "END:A")
	want := of("A", []line.Line{{Name: "X", Params: []line.Param{{Name: "P", Values: []string{value}}}}})
	checkParse(t, s, want)
	checkTooLong(t, want)
}

// R3

// shares reports whether two texts that are not empty have a byte of memory in common.
func shares(a, b string) bool {
	if a == "" || b == "" {
		return false
	}
	first, second := uintptr(unsafe.Pointer(unsafe.StringData(a))), uintptr(unsafe.Pointer(unsafe.StringData(b)))
	return first < second+uintptr(len(b)) && second < first+uintptr(len(a))
}

// lineTexts returns all texts of a line.
func lineTexts(l line.Line) []string {
	all := []string{l.Name, l.Value}
	for _, p := range l.Params {
		all = append(append(all, p.Name), p.Values...)
	}
	return all
}

// treeTexts returns all texts of a component.
func treeTexts(c tree.Tree) []string {
	all := []string{c.Name}
	for _, l := range c.Lines {
		all = append(all, lineTexts(l)...)
	}
	for _, kid := range c.Kids {
		all = append(all, treeTexts(kid)...)
	}
	return all
}

// spoil fills the spare capacity of each list of c.
func spoil(c tree.Tree) {
	for i := len(c.Lines); i < cap(c.Lines); i++ {
		c.Lines[:cap(c.Lines)][i] = line.Line{Name: "SPOILT"}
	}
	for i := len(c.Kids); i < cap(c.Kids); i++ {
		c.Kids[:cap(c.Kids)][i] = of("SPOILT", nil)
	}
	for _, l := range c.Lines {
		spoilLine(l)
	}
	for _, kid := range c.Kids {
		spoil(kid)
	}
}

// spoilLine fills the spare capacity of each list of l.
func spoilLine(l line.Line) {
	for i := len(l.Params); i < cap(l.Params); i++ {
		l.Params[:cap(l.Params)][i] = line.Param{Name: "SPOILT"}
	}
	for _, p := range l.Params {
		for i := len(p.Values); i < cap(p.Values); i++ {
			p.Values[:cap(p.Values)][i] = "spoilt"
		}
	}
}

// wreck changes each element of each list of c, the innermost ones first.
func wreck(c tree.Tree) {
	for i, kid := range c.Kids {
		wreck(kid)
		c.Kids[i] = tree.Tree{}
	}
	for i, l := range c.Lines {
		for j, p := range l.Params {
			clear(p.Values)
			l.Params[j] = line.Param{}
		}
		c.Lines[i] = line.Line{}
	}
}

func TestParseMemory(t *testing.T) {
	for _, s := range []string{
		text("BEGIN:ABC", "END:ABC"),
		text("BEGIN:ABC", "DEF;GHI=jkl,mno;PQR=stu:vwx", "YZA:bcd", "EFG:hij", "END:ABC"),
		text("BEGIN:ABC", "DEF:ghi", "BEGIN:JKL", "MNO:pqr", "MNO:pqr", "MNO:pqr", "BEGIN:STU", "END:STU", "BEGIN:STU", "VWX:yza", "END:STU", "BEGIN:STU", "END:STU", "END:JKL", "BEGIN:JKL", "BCD:efg", "END:JKL", "BEGIN:JKL", "BEGIN:STU", "END:STU", "END:JKL", "END:ABC"),
	} {
		before := strings.Clone(s)
		c, _, e := tree.Parse(s)
		again, _, _ := tree.Parse(s)
		want := show(c)
		if e != api.OK {
			t.Errorf("Parse(%q) = %v", s, e)
		}
		for _, text := range treeTexts(c) {
			if shares(text, s) {
				t.Errorf("Parse(%q) shares the memory of %q", s, text)
			}
			for _, other := range treeTexts(again) {
				if shares(text, other) {
					t.Errorf("two results of Parse(%q) share the memory of %q", s, text)
				}
			}
		}
		spoil(c)
		if show(c) != want {
			t.Errorf("the lists of Parse(%q) share memory: %q", s, c)
		}
		wreck(c)
		if show(again) != want || s != before {
			t.Errorf("two results of Parse(%q) share memory: %q", s, again)
		}
	}
}

// roomy returns a copy of c whose lists have spare capacity, with something in it.
func roomy(c tree.Tree) tree.Tree {
	d := copied(c)
	d.Lines = append(d.Lines, line.Line{Name: "SPARE"}, line.Line{Name: "MORE"})[:len(d.Lines)]
	for i := range d.Lines {
		l := &d.Lines[i]
		for j := range l.Params {
			p := &l.Params[j]
			p.Values = append(p.Values, "spare", "more")[:len(p.Values)]
		}
		l.Params = append(l.Params, line.Param{Name: "SPARE"}, line.Param{Name: "MORE"})[:len(l.Params)]
	}
	for i := range d.Kids {
		d.Kids[i] = roomy(d.Kids[i])
	}
	d.Kids = append(d.Kids, of("SPARE", nil), of("MORE", nil))[:len(d.Kids)]
	return d
}

// spares returns all that is in the spare capacity of the lists of c.
func spares(c tree.Tree) string {
	s := fmt.Sprintf("%q %q", c.Lines[len(c.Lines):cap(c.Lines)], c.Kids[len(c.Kids):cap(c.Kids)])
	for _, l := range c.Lines {
		s += fmt.Sprintf("%q", l.Params[len(l.Params):cap(l.Params)])
		for _, p := range l.Params {
			s += fmt.Sprintf("%q", p.Values[len(p.Values):cap(p.Values)])
		}
	}
	for _, kid := range c.Kids {
		s += spares(kid)
	}
	return s
}

// TestArguments checks that nothing changes a component, nor the spare capacity of its lists.
func TestArguments(t *testing.T) {
	with := line.Line{Name: "DEF", Params: []line.Param{{Name: "GHI", Values: []string{"jkl", "m:n"}}, {Name: "OPQ", Values: []string{"rst"}}}, Value: "uvw"}
	for _, c := range []tree.Tree{
		of("ABC", nil),
		of("ABC", []line.Line{with, with}, of("XYZ", []line.Line{with}, of("XYZ", nil)), of("XYZ", nil)),
		of("ABC", append(lines("DEF", strings.Repeat("y", api.MaxLine)), with), of("XYZ", nil)),
		of("ABC", lines("DEF", "\n"), of("", nil), chain(api.MaxNest)),
		of("ABC", append([]line.Line{with}, some(api.MaxLines)...)),
	} {
		a := roomy(c)
		before, beforeSpares := show(a), spares(a)
		tree.Formed(a)
		tree.Count(a)
		tree.Equal(a, a)
		tree.Equal(a, copied(c))
		found, _ := tree.Find(a, "DEF")
		text, _ := tree.Print(a)
		again, _ := tree.Print(a)
		if show(a) != before || spares(a) != beforeSpares {
			t.Errorf("%.300s has become %.300q, with %.300s behind it", before, a, spares(a))
		}
		for _, s := range treeTexts(a) {
			for _, result := range append(lineTexts(found), text) {
				if shares(s, result) {
					t.Errorf("a result for %.300s shares the memory of %.300q", before, s)
				}
			}
		}
		if shares(text, again) {
			t.Errorf("two results of Print(%.300s) share memory", before)
		}
	}
}

// TestFindMemory changes what is found, and then the component.
func TestFindMemory(t *testing.T) {
	l := line.Line{Name: "DEF", Params: []line.Param{{Name: "GHI", Values: []string{"jkl", "mno", "pqr"}}, {Name: "S", Values: []string{"t"}}, {Name: "U", Values: []string{"v"}}}, Value: "w"}
	a := roomy(of("ABC", []line.Line{l, l}))
	before, beforeSpares, want := show(a), spares(a), fmt.Sprintf("%q", l)
	found, _ := tree.Find(a, "DEF")
	again, _ := tree.Find(a, "DEF")
	spoilLine(found)
	if fmt.Sprintf("%q", found) != want {
		t.Errorf("the lists of a line that is found share memory: %q", found)
	}
	wreck(of("", []line.Line{found}))
	if show(a) != before || spares(a) != beforeSpares || fmt.Sprintf("%q", again) != want {
		t.Errorf("%q, %q", a, again)
	}
	wreck(a)
	if fmt.Sprintf("%q", again) != want {
		t.Errorf("%q", again)
	}
}

// TestNotRetained changes a component after calls with it.
func TestNotRetained(t *testing.T) {
	c := of("A", lines("X", "y"), of("B", lines("X", "z")))
	text, _ := tree.Print(c)
	c.Lines[0].Value = "changed"
	c.Kids[0].Name = "C"
	if text != "BEGIN:A\r\nX:y\r\nBEGIN:B\r\nX:z\r\nEND:B\r\nEND:A\r\n" {
		t.Errorf("%q", text)
	}
	checkPrint(t, c, "BEGIN:A\r\nX:changed\r\nBEGIN:C\r\nX:z\r\nEND:C\r\nEND:A\r\n")
}

// R2: the same calls have the same results, whatever was called in between.
func TestHistory(t *testing.T) {
	for range 3 {
		checkParse(t, text("BEGIN:A", "BEGIN:B", "END:B", "END:A"), of("A", nil, of("B", nil)))
		checkNoParse(t, text("BEGIN:A", "BEGIN:B"), 3, api.ErrSyntax)
		checkNoParse(t, text("END:B", "END:A"), 1, api.ErrSyntax)
		checkNoParse(t, text("BEGIN:A", "END:A", "X:y"), 3, api.ErrSyntax)
		checkPrint(t, of("A", lines("X", "y")), "BEGIN:A\r\nX:y\r\nEND:A\r\n")
		checkNotFormed(t, chain(api.MaxNest+1))
	}
}

// P5

// FuzzParse holds whatever is read against the other way of reading it.
func FuzzParse(f *testing.F) {
	for _, s := range []string{
		"", "BEGIN:A\r\nEND:A\r\n", "begin:a\nX;P=q:y\nEND:A\n", "BEGIN:A\nBEGIN:B\n X\nEND:BX\nX:y\nEND:A\n", "BEGIN:A\nX:\xff\n", "BEGIN;P=q:A\n", "END:A\n", "BEGIN:A\nEND:A\nX:y\n",
		strings.Repeat("BEGIN:A\n", 5), "BEGIN:A\n" + strings.Repeat("X:\n", 300), "BEGIN:\u017f\nEND:S\n", "BEGIN:A\nX:\x01\nEND:A\n",
	} {
		f.Add(s)
	}
	f.Fuzz(func(t *testing.T, s string) {
		checkAny(t, s)
	})
}
