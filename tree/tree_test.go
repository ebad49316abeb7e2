package tree_test

import (
	"fmt"
	"slices"
	"strconv"
	"strings"
	"testing"

	"tryst/api"
	"tryst/fold"
	"tryst/line"
	"tryst/tree"
)

// of returns the component with that name, those lines and those nested components.
func of(name string, lines []line.Line, kids ...tree.Tree) tree.Tree {
	return tree.Tree{Name: name, Lines: lines, Kids: kids}
}

// lines returns lines with a name and a value each: "A", "b", "C", "d" are the lines A:b and C:d.
func lines(texts ...string) []line.Line {
	var all []line.Line
	for i := 0; i < len(texts); i += 2 {
		all = append(all, line.Line{Name: texts[i], Value: texts[i+1]})
	}
	return all
}

// some returns n lines with values of their own.
func some(n int) []line.Line {
	var all []line.Line
	for i := range n {
		all = append(all, line.Line{Name: "X", Value: strconv.Itoa(i)})
	}
	return all
}

// leaves returns n components without anything in them.
func leaves(n int) []tree.Tree {
	return slices.Repeat([]tree.Tree{of("L", nil)}, n)
}

// chain returns a component that is nested n deep.
func chain(n int) tree.Tree {
	t := of("N", nil)
	for range n - 1 {
		t = of("N", nil, t)
	}
	return t
}

// show writes a component so that no two different ones are written alike, but for nil and empty lists.
func show(t tree.Tree) string {
	return fmt.Sprintf("%q", t)
}

// around returns components in which t stands at each depth, and at each place among other components;
// t itself is the first of them.
func around(t tree.Tree) []tree.Tree {
	leaf := of("L", lines("Y", "z"))
	return []tree.Tree{
		t,
		of("O", nil, t),
		of("O", lines("X", "y"), t, leaf),
		of("O", lines("X", "y"), leaf, t),
		of("O", nil, leaf, t, leaf),
		of("O", nil, of("P", nil, t)),
		of("O", nil, leaf, of("P", lines("X", "y"), leaf, t), leaf),
		of("O", nil, of("P", nil, of("Q", nil, t))),
		of("O", nil, leaf, of("P", nil, of("Q", nil, leaf, leaf), of("Q", lines("X", "y"), leaf, t))),
	}
}

// checkPrint checks all that is promised of a valid component and of its text.
func checkPrint(t *testing.T, c tree.Tree, want string) {
	t.Helper()
	if !tree.Formed(c) {
		t.Errorf("Formed(%.300q) = false", c)
	}
	if s, e := tree.Print(c); s != want || e != api.OK {
		t.Errorf("Print(%.300q) = %.300q, %v, want %.300q, OK", c, s, e, want)
	}
	if texts, _, _ := fold.Unfold(want); tree.Count(c) != len(texts) {
		t.Errorf("Count(%.300q) = %d, want %d", c, tree.Count(c), len(texts))
	}
	checkParse(t, want, c)
}

// checkFormed checks that c is valid, and that it is read from what is printed.
func checkFormed(t *testing.T, c tree.Tree) {
	t.Helper()
	if !tree.Formed(c) {
		t.Errorf("Formed(%.300q) = false", c)
	}
	checkBack(t, c)
}

// checkNotFormed checks that c is not valid.
func checkNotFormed(t *testing.T, c tree.Tree) {
	t.Helper()
	if tree.Formed(c) {
		t.Errorf("Formed(%.300q) = true", c)
	}
	if s, e := tree.Print(c); s != "" || e != api.ErrArg {
		t.Errorf("Print(%.300q) = %.300q, %v, want no text, ErrArg", c, s, e)
	}
}

// checkTooLong checks that c is valid, but has no text.
func checkTooLong(t *testing.T, c tree.Tree) {
	t.Helper()
	if !tree.Formed(c) {
		t.Errorf("Formed(%.300q) = false", c)
	}
	if s, e := tree.Print(c); s != "" || e != api.ErrLong {
		t.Errorf("Print(%.300q) = %.300q, %v, want no text, ErrLong", c, s, e)
	}
}

func checkEqual(t *testing.T, a, b tree.Tree, want bool) {
	t.Helper()
	if tree.Equal(a, b) != want || tree.Equal(b, a) != want {
		t.Errorf("Equal(%q, %q) = %v, the other way round %v, want %v", a, b, tree.Equal(a, b), tree.Equal(b, a), want)
	}
}

func checkFind(t *testing.T, c tree.Tree, name string, want line.Line, number int) {
	t.Helper()
	if l, n := tree.Find(c, name); fmt.Sprintf("%q", l) != fmt.Sprintf("%q", want) || n != number {
		t.Errorf("Find(%q, %q) = %q, %d, want %q, %d", c, name, l, n, want, number)
	}
}

// P11.1: Count

func checkCount(t *testing.T, c tree.Tree, want int) {
	t.Helper()
	if n := tree.Count(c); n != want {
		t.Errorf("Count(%.300q) = %d, want %d", c, n, want)
	}
}

func TestCount(t *testing.T) {
	checkCount(t, of("A", nil), 2)
	checkCount(t, of("A", lines("X", "y")), 3)
	for _, n := range []int{0, 1, 2, 7, 297, 298, 299, 1000} {
		checkCount(t, of("A", some(n)), 2+n)
		checkCount(t, of("A", nil, leaves(n)...), 2+2*n)
		checkCount(t, of("A", some(n), leaves(n)...), 2+3*n)
		checkCount(t, of("A", some(3), of("B", some(n))), 7+n)
		checkCount(t, of("A", nil, of("B", some(1)), of("B", some(n)), of("C", nil, of("D", some(n), of("E", some(n))))), 13+3*n)
	}
	for depth := 1; depth <= 20; depth++ {
		checkCount(t, chain(depth), 2*depth)
	}
	checkCount(t, of("A", some(1), of("B", some(2), of("C", some(3), of("D", some(4))))), 18)
	checkCount(t, of("A", some(1), of("B", some(2)), of("C", some(3)), of("D", some(4))), 18)
}

// A line counts once, also if it is folded, too long or not valid, and so does one that is named BEGIN.
func TestCountOfAnyLines(t *testing.T) {
	checkCount(t, tree.Tree{}, 2)
	checkCount(t, of("A", lines("X", strings.Repeat("y", 100))), 3)
	checkCount(t, of("A", lines("X", strings.Repeat("y", api.MaxObject))), 3)
	checkCount(t, of("", lines("", "", "BEGIN", "A", "END", "A", "x", "\n")), 6)
	checkCount(t, of("", nil, tree.Tree{}, tree.Tree{}), 6)
}

// TestDeep has components that are nested as deep as the document knows of.
func TestDeep(t *testing.T) {
	const depth = 1 << 16
	checkCount(t, chain(depth), 2*depth)
	if c := chain(depth); tree.Formed(c) || !tree.Equal(c, chain(depth)) || tree.Equal(c, chain(depth-1)) {
		t.Error("Formed or Equal")
	}
	if s, e := tree.Print(chain(depth)); s != "" || e != api.ErrArg {
		t.Error(s, e)
	}
}

// TestWide has components that share their nested ones: they would be written with more lines than any
// program could count one by one.
func TestWide(t *testing.T) {
	c := of("A", some(1))
	for range api.MaxNest - 1 {
		c = of("A", nil, slices.Repeat([]tree.Tree{c}, 100000)...)
	}
	if s, e := tree.Print(c); tree.Formed(c) || s != "" || e != api.ErrArg {
		t.Error(s, e)
	}
}

// TestCycle has a component that contains itself.
func TestCycle(t *testing.T) {
	kids := make([]tree.Tree, 1)
	kids[0] = of("A", nil, kids...)
	if s, e := tree.Print(kids[0]); tree.Formed(kids[0]) || s != "" || e != api.ErrArg {
		t.Error(s, e)
	}
}

// P11.1: Formed

func TestFormedOrdinary(t *testing.T) {
	for _, c := range around(of("A", lines("X", "y"))) {
		checkFormed(t, c)
	}
	// The same names may occur at each place.
	checkFormed(t, of("A", lines("A", "A", "A", "A"), of("A", lines("A", "A"), of("A", nil)), of("A", nil)))
}

func TestFormedName(t *testing.T) {
	long := strings.Repeat("A", api.MaxName)
	for _, name := range []string{"A", "Z", "0", "-", "VEVENT", "X-1", "BEGIN", "END", "BEGINS", long} {
		for _, c := range around(of(name, lines("X", "y"))) {
			checkFormed(t, c)
		}
	}
	for _, name := range []string{"", "a", "vevent", "VEVENt", "A B", " A", "A ", "A:", "A;B", "A=", "A\n", "A\r\nX:y", "é", "ſ", "\xff", long + "A", strings.Repeat("A", api.MaxObject)} {
		for _, c := range around(of(name, lines("X", "y"))) {
			checkNotFormed(t, c)
		}
		// With nested components that are valid.
		for _, c := range around(tree.Tree{Name: name}) {
			checkNotFormed(t, of("A", nil, of(name, nil, of("B", nil)), c))
		}
	}
}

// TestFormedNameEachByte has each byte alone and among letters.
func TestFormedNameEachByte(t *testing.T) {
	for i := range 256 {
		s := string([]byte{byte(i)})
		for _, name := range []string{s, "A" + s, s + "A"} {
			if strings.Contains("ABCDEFGHIJKLMNOPQRSTUVWXYZ0123456789-", s) {
				checkFormed(t, of(name, nil, of(name, nil)))
			} else {
				checkNotFormed(t, of(name, nil))
				checkNotFormed(t, of("A", nil, of(name, nil)))
			}
		}
	}
}

// notLines returns lines of which none is valid, each for another reason.
func notLines() []line.Line {
	return []line.Line{
		{}, {Value: "y"}, {Name: "x"}, {Name: "X Y"}, {Name: "X:"}, {Name: strings.Repeat("X", api.MaxName+1)},
		{Name: "X", Value: "\n"}, {Name: "X", Value: "y\r\n"}, {Name: "X", Value: "\x00"}, {Name: "X", Value: "\x7f"}, {Name: "X", Value: "\xff"},
		{Name: "X", Params: []line.Param{{}}}, {Name: "X", Params: []line.Param{{Name: "P"}}}, {Name: "X", Params: []line.Param{{Name: "p", Values: []string{"q"}}}},
		{Name: "X", Params: []line.Param{{Name: "P", Values: []string{"q", "\x01"}}}}, {Name: "X", Params: []line.Param{{Name: "P", Values: make([]string, api.MaxList+1)}}},
		{Name: "X", Params: []line.Param{{Name: "P", Values: []string{"q"}}, {Name: "P", Values: []string{"q"}}}},
		{Name: "begin", Value: "A"}, {Name: "end", Value: "A"},
	}
}

// marks returns valid lines that are named BEGIN or END.
func marks() []line.Line {
	params := []line.Param{{Name: "P", Values: []string{"q"}}}
	return []line.Line{
		{Name: "BEGIN"}, {Name: "END"}, {Name: "BEGIN", Value: "A"}, {Name: "END", Value: "A"}, {Name: "BEGIN", Value: "y z"}, {Name: "END", Value: "y z"},
		{Name: "BEGIN", Params: params, Value: "A"}, {Name: "END", Params: params, Value: "A"},
	}
}

func TestFormedLines(t *testing.T) {
	for _, l := range marks() {
		if !line.Formed(l) {
			t.Errorf("%q is not valid even as a line", l)
		}
	}
	for _, l := range append(notLines(), marks()...) {
		for _, all := range [][]line.Line{{l}, append(some(2), l), append([]line.Line{l}, some(2)...), append(append(some(1), l), some(1)...)} {
			for _, c := range around(of("A", all)) {
				checkNotFormed(t, c)
			}
			checkNotFormed(t, of("A", all, of("B", nil)))
			checkNotFormed(t, of("A", nil, of("B", nil, of("C", nil)), of("B", all, of("C", nil))))
		}
	}
	for _, name := range []string{"BEGINS", "ENDS", "ABEGIN", "AEND", "BEGI", "EN", "BEGIN-", "-END", "BEGINEND"} {
		for _, c := range around(of("A", lines(name, "A", name, "A"))) {
			checkFormed(t, c)
		}
	}
}

func TestFormedNest(t *testing.T) {
	for depth := 1; depth <= 3*api.MaxNest; depth++ {
		deep := chain(depth)
		if depth <= api.MaxNest {
			checkFormed(t, deep)
		} else {
			checkNotFormed(t, deep)
		}
		// The deepest place counts, wherever it stands.
		for i, place := range [][]tree.Tree{{deep}, {deep, of("L", nil)}, {of("L", nil), deep}, {chain(2), deep, chain(2)}} {
			if depth < api.MaxNest {
				checkFormed(t, of("A", some(i), place...))
			} else {
				checkNotFormed(t, of("A", some(i), place...))
			}
		}
	}
	// Many components next to each other are not deep.
	checkFormed(t, of("A", nil, slices.Repeat([]tree.Tree{chain(api.MaxNest - 1)}, 40)...))
	checkNotFormed(t, of("A", nil, append(slices.Repeat([]tree.Tree{chain(api.MaxNest - 1)}, 40), chain(api.MaxNest))...))
}

// TestFormedCount has components of several shapes with MaxLines lines, and one line more at each place.
func TestFormedCount(t *testing.T) {
	const most = api.MaxLines
	for n := most - 3; n <= most+3; n++ {
		for _, c := range []tree.Tree{
			of("A", some(n-2)),
			of("A", nil, of("B", some(n-4))),
			of("A", some(7), of("B", some(n-11))),
			of("A", some(n-11), of("B", some(7))),
			of("A", some(n-6), leaves(2)...),
			of("A", some(n%2), leaves((n-2)/2)...),
			of("A", nil, of("B", some(n%2), leaves((n-4)/2)...)),
			of("A", nil, of("B", nil, of("C", nil, of("D", some(n-8))))),
			of("A", some(90), of("B", some(90), of("C", some(90), of("D", some(n-278))))),
			of("A", nil, of("B", some(100)), of("C", some(100)), of("D", some(n-208))),
			of("A", some(n-208), of("B", some(100)), of("C", nil, of("D", some(100)))),
		} {
			checkCount(t, c, n)
			if n <= most {
				checkFormed(t, c)
			} else {
				checkNotFormed(t, c)
			}
		}
	}
	checkNotFormed(t, of("A", some(100*most)))
	checkNotFormed(t, of("A", nil, leaves(100*most)...))
}

// P11.1: Equal

func TestEqual(t *testing.T) {
	with := func(l line.Line, params ...line.Param) []line.Line {
		l.Params = params
		return []line.Line{l}
	}
	trees := []tree.Tree{
		{}, of("A", nil), of("B", nil), of("a", nil), of("AA", nil), of("é", nil), of("\xff", nil),
		of("A", lines("X", "y")), of("B", lines("X", "y")), of("A", lines("Y", "y")), of("A", lines("X", "Y")), of("A", lines("X", "")), of("A", lines("", "y")), of("A", lines("", "")),
		of("A", lines("X", "y", "X", "y")), of("A", lines("X", "y", "Z", "w")), of("A", lines("Z", "w", "X", "y")), of("A", lines("X", "w", "Z", "y")), of("A", lines("X", "y", "Z", "w", "Z", "w")), of("A", lines("X", "y", "Z", "v")), of("A", lines("X", "v", "Z", "w")),
		of("A", with(line.Line{Name: "X", Value: "y"}, line.Param{Name: "P", Values: []string{"q"}})),
		of("A", with(line.Line{Name: "X", Value: "y"}, line.Param{Name: "P", Values: []string{"r"}})),
		of("A", with(line.Line{Name: "X", Value: "y"}, line.Param{Name: "P", Values: []string{"q", "r"}})),
		of("A", with(line.Line{Name: "X", Value: "y"}, line.Param{Name: "Q", Values: []string{"q"}})),
		of("A", with(line.Line{Name: "X", Value: "y"}, line.Param{})),
		of("A", nil, of("", nil)), of("A", nil, of("A", nil)), of("A", nil, of("B", nil)), of("B", nil, of("B", nil)), of("A", nil, of("C", nil)), of("A", lines("X", "y"), of("B", nil)), of("A", nil, of("B", lines("X", "y"))), of("A", nil, of("B", lines("X", "z"))),
		of("A", nil, of("B", nil), of("B", nil)), of("A", nil, of("B", nil), of("C", nil)), of("A", nil, of("C", nil), of("B", nil)), of("A", nil, of("B", nil), of("C", nil), of("C", nil)), of("A", nil, of("B", nil, of("C", nil))), of("A", nil, of("C", nil, of("B", nil))),
		of("A", nil, of("B", lines("X", "y")), of("B", nil)), of("A", nil, of("B", nil), of("B", lines("X", "y"))), of("A", lines("X", "y"), of("B", nil), of("B", nil)),
		of("A", nil, of("B", nil, of("C", lines("X", "y")))), of("A", nil, of("B", lines("X", "y"), of("C", nil))), of("A", nil, of("B", nil, of("C", nil), of("C", nil))), of("A", nil, of("B", nil, of("C", nil)), of("C", nil)),
		chain(6), chain(7), of("A", some(1000)), of("A", some(1001)), of("A", nil, leaves(1000)...), of("A", nil, leaves(1001)...),
	}
	for i, a := range trees {
		for j, b := range trees {
			checkEqual(t, a, b, i == j)
		}
		checkEqual(t, a, copied(a), true)
	}
}

// copied returns a copy of c in new memory.
func copied(c tree.Tree) tree.Tree {
	d := tree.Tree{Name: strings.Clone(c.Name)}
	for _, l := range c.Lines {
		m := line.Line{Name: strings.Clone(l.Name), Value: strings.Clone(l.Value)}
		for _, p := range l.Params {
			q := line.Param{Name: strings.Clone(p.Name)}
			for _, v := range p.Values {
				q.Values = append(q.Values, strings.Clone(v))
			}
			m.Params = append(m.Params, q)
		}
		d.Lines = append(d.Lines, m)
	}
	for _, kid := range c.Kids {
		d.Kids = append(d.Kids, copied(kid))
	}
	return d
}

// R4

func TestEmptyLists(t *testing.T) {
	leaves := []tree.Tree{
		{Name: "A"}, {Name: "A", Lines: []line.Line{}}, {Name: "A", Kids: []tree.Tree{}}, {Name: "A", Lines: []line.Line{}, Kids: []tree.Tree{}},
		{Name: "A", Lines: make([]line.Line, 0, 4), Kids: make([]tree.Tree, 0, 4)},
	}
	for _, a := range leaves {
		for _, b := range leaves {
			checkEqual(t, a, b, true)
			checkEqual(t, of("B", nil, a), of("B", nil, b), true)
			checkEqual(t, of("B", nil, a), of("B", nil, a, b), false)
			checkEqual(t, a, of("A", make([]line.Line, 1)), false)
			checkEqual(t, a, of("A", nil, tree.Tree{}), false)
		}
		checkPrint(t, a, "BEGIN:A\r\nEND:A\r\n")
		checkPrint(t, of("B", nil, a), "BEGIN:B\r\nBEGIN:A\r\nEND:A\r\nEND:B\r\n")
		checkFind(t, a, "X", line.Line{}, 0)
	}
	none, empty := of("A", []line.Line{{Name: "X"}}), of("A", []line.Line{{Name: "X", Params: []line.Param{}}})
	checkEqual(t, none, empty, true)
	checkPrint(t, empty, "BEGIN:A\r\nX:\r\nEND:A\r\n")
	checkFind(t, empty, "X", line.Line{Name: "X"}, 1)
}

// P11.1: Find

func TestFind(t *testing.T) {
	first := line.Line{Name: "X", Params: []line.Param{{Name: "P", Values: []string{"q", "r"}}, {Name: "S", Values: []string{""}}}, Value: "1"}
	c := of("A", append([]line.Line{first}, lines("Y", "2", "X", "3", "XX", "4", "Z", "", "X", "1")...),
		of("B", lines("X", "5", "W", "6"), of("C", lines("V", "7", "X", "8", "Y", "9"))), of("X", lines("Y", "10")))
	checkFind(t, c, "X", first, 3)
	checkFind(t, c, "Y", lines("Y", "2")[0], 1)
	checkFind(t, c, "XX", lines("XX", "4")[0], 1)
	checkFind(t, c, "Z", lines("Z", "")[0], 1)
	// W and V are only in nested components, and A, B, BEGIN and END are no lines of their own.
	for _, name := range []string{"", "W", "V", "A", "B", "C", "BEGIN", "END", "x", "y", "XXX", "X ", "X:", "P", "1", "é"} {
		checkFind(t, c, name, line.Line{}, 0)
	}
	checkFind(t, c.Kids[0], "X", lines("X", "5")[0], 1)
	checkFind(t, c.Kids[0].Kids[0], "V", lines("V", "7")[0], 1)
	checkFind(t, c.Kids[1], "X", line.Line{}, 0)
	for n := 1; n <= 2*api.MaxLines; n += 7 {
		checkFind(t, of("A", some(n)), "X", lines("X", "0")[0], n)
		checkFind(t, of("A", append(lines("Y", "z"), some(n)...)), "X", lines("X", "0")[0], n)
		checkFind(t, of("A", append(some(n), lines("Y", "z")...)), "Y", lines("Y", "z")[0], 1)
		checkFind(t, of("A", nil, of("A", some(n))), "X", line.Line{}, 0)
	}
}

// TestFindNotValid asks components that no text has.
func TestFindNotValid(t *testing.T) {
	c := of("", append(lines("x", "\n", "", "z", "BEGIN", "A", "é", "\xff", "", "w"), line.Line{Name: "X", Params: []line.Param{{}}}))
	checkFind(t, c, "x", lines("x", "\n")[0], 1)
	checkFind(t, c, "", lines("", "z")[0], 2)
	checkFind(t, c, "BEGIN", lines("BEGIN", "A")[0], 1)
	checkFind(t, c, "é", lines("é", "\xff")[0], 1)
	checkFind(t, c, "X", line.Line{Name: "X", Params: []line.Param{{}}}, 1)
	checkFind(t, tree.Tree{}, "", line.Line{}, 0)
	checkFind(t, of("", nil, of("", lines("", ""))), "", line.Line{}, 0)
}

// P11.2: Print

func TestPrintOrdinary(t *testing.T) {
	checkPrint(t, of("A", nil), "BEGIN:A\r\nEND:A\r\n")
	checkPrint(t, of("A", lines("X", "y")), "BEGIN:A\r\nX:y\r\nEND:A\r\n")
	checkPrint(t, of("A", lines("X", "")), "BEGIN:A\r\nX:\r\nEND:A\r\n")
	checkPrint(t, of("VCALENDAR", lines("VERSION", "2.0"), of("VEVENT", lines("UID", "u"), of("VALARM", nil))),
		"BEGIN:VCALENDAR\r\nVERSION:2.0\r\nBEGIN:VEVENT\r\nUID:u\r\nBEGIN:VALARM\r\nEND:VALARM\r\nEND:VEVENT\r\nEND:VCALENDAR\r\n")
	params := []line.Param{{Name: "P", Values: []string{"q:r", "s\n", "^"}}, {Name: "T", Values: []string{""}}}
	checkPrint(t, of("A", []line.Line{{Name: "X", Params: params, Value: ` y,"z`}}), "BEGIN:A\r\nX;P=\"q:r\",s^n,^^;T=: y,\"z\r\nEND:A\r\n")
	long := strings.Repeat("Z", api.MaxName)
	checkPrint(t, of(long, nil), "BEGIN:"+long+"\r\nEND:"+long+"\r\n")
	checkPrint(t, of("BEGIN", nil, of("END", nil)), "BEGIN:BEGIN\r\nBEGIN:END\r\nEND:END\r\nEND:BEGIN\r\n")
}

// The order of lines and of nested components is kept, and so is what occurs twice.
func TestPrintOrder(t *testing.T) {
	checkPrint(t, of("A", lines("Z", "1", "B", "2", "Z", "0", "B", "2")), "BEGIN:A\r\nZ:1\r\nB:2\r\nZ:0\r\nB:2\r\nEND:A\r\n")
	checkPrint(t, of("A", lines("X", "y"), of("C", nil), of("B", lines("Z", "w")), of("C", nil)),
		"BEGIN:A\r\nX:y\r\nBEGIN:C\r\nEND:C\r\nBEGIN:B\r\nZ:w\r\nEND:B\r\nBEGIN:C\r\nEND:C\r\nEND:A\r\n")
	checkPrint(t, of("A", lines("X", "1"), of("B", lines("X", "2"), of("C", lines("X", "3"), of("D", lines("X", "4"))), of("C", lines("X", "5"))), of("B", lines("X", "6"))),
		"BEGIN:A\r\nX:1\r\nBEGIN:B\r\nX:2\r\nBEGIN:C\r\nX:3\r\nBEGIN:D\r\nX:4\r\nEND:D\r\nEND:C\r\nBEGIN:C\r\nX:5\r\nEND:C\r\nEND:B\r\nBEGIN:B\r\nX:6\r\nEND:B\r\nEND:A\r\n")
}

func TestPrintFolded(t *testing.T) {
	const head = "X:"
	for _, c := range []struct{ value, written string }{
		{strings.Repeat("y", 73), strings.Repeat("y", 73)},
		{strings.Repeat("y", 74), strings.Repeat("y", 73) + "\r\n y"},
		{strings.Repeat("y", 147), strings.Repeat("y", 73) + "\r\n " + strings.Repeat("y", 74)},
		{strings.Repeat("y", 148), strings.Repeat("y", 73) + "\r\n " + strings.Repeat("y", 74) + "\r\n y"},
		{strings.Repeat("é", 40), strings.Repeat("é", 36) + "\r\n éééé"},
		{strings.Repeat("y", 73) + "  z", strings.Repeat("y", 73) + "\r\n   z"},
	} {
		checkPrint(t, of("A", lines("X", c.value, "Z", "w")), "BEGIN:A\r\n"+head+c.written+"\r\nZ:w\r\nEND:A\r\n")
		checkPrint(t, of("A", lines("Z", "w"), of("B", lines("X", c.value))), "BEGIN:A\r\nZ:w\r\nBEGIN:B\r\n"+head+c.written+"\r\nEND:B\r\nEND:A\r\n")
	}
}

// TestPrintLongLine has lines of MaxLine bytes, and of one byte more, at each depth.
func TestPrintLongLine(t *testing.T) {
	value := strings.Repeat("y", api.MaxLine-len("X:"))
	for _, c := range around(of("A", lines("X", value, "Z", "w"))) {
		checkFormed(t, c)
		if _, e := tree.Print(c); e != api.OK {
			t.Errorf("Print of lines of MaxLine bytes: %v", e)
		}
	}
	caret := line.Line{Name: "X", Params: []line.Param{{Name: "P", Values: []string{strings.Repeat("^", (api.MaxLine-4)/2)}}}}
	for _, l := range []line.Line{{Name: "X", Value: value + "y"}, {Name: "XX", Value: value}, {Name: "X", Value: strings.Repeat("y", 10*api.MaxObject)}, caret} {
		for _, all := range [][]line.Line{{l}, append(some(2), l), append([]line.Line{l}, some(2)...)} {
			for _, c := range around(of("A", all)) {
				checkTooLong(t, c)
			}
			checkTooLong(t, of("A", all, of("B", nil)))
		}
	}
}

// TestPrintMaxObject has results of MaxObject bytes, and of one byte more.
func TestPrintMaxObject(t *testing.T) {
	full := lines("X", strings.Repeat("y", 73))[0] // 77 bytes with its end
	for _, c := range []struct {
		rest int // bytes of the other lines
		make func(last line.Line, all []line.Line) tree.Tree
	}{
		{len("BEGIN:A..END:A.."), func(last line.Line, all []line.Line) tree.Tree { return of("A", append(all, last)) }},
		{len("BEGIN:A..BEGIN:B..END:B..END:A.."), func(last line.Line, all []line.Line) tree.Tree {
			return of("A", []line.Line{last}, of("B", all))
		}},
		{len("BEGIN:A..BEGIN:B..END:B..END:A.."), func(last line.Line, all []line.Line) tree.Tree {
			return of("A", all, of("B", []line.Line{last}))
		}},
		{len("BEGIN:A..BEGIN:B..END:B..BEGIN:B..END:B..END:A.."), func(last line.Line, all []line.Line) tree.Tree {
			return of("A", nil, of("B", all[:100]), of("B", append(all[100:], last)))
		}},
	} {
		room := api.MaxObject - c.rest
		last := lines("Z", strings.Repeat("w", room%77-len("Z:..")))[0]
		all := slices.Repeat([]line.Line{full}, room/77)
		most := c.make(last, slices.Clone(all))
		s, e := tree.Print(most)
		if len(s) != api.MaxObject || e != api.OK {
			t.Errorf("%d bytes, %v", len(s), e)
		}
		checkBack(t, most)
		last.Value += "w"
		checkTooLong(t, c.make(last, slices.Clone(all)))
	}
	// The bytes of folded lines count with their folds.
	long := strings.Repeat("y", api.MaxLine-len("X:"))
	checkFormed(t, of("A", lines("X", long, "X", long, "X", long, "X", long, "X", long, "X", long, "X", long, "X", long, "X", long)))
	checkTooLong(t, of("A", lines("X", long, "X", long, "X", long, "X", long, "X", long, "X", long, "X", long, "X", long, "X", long, "X", long[:1950])))
}

// TestPrintOrderOfErrors breaks a condition in components whose texts would be too long, too.
func TestPrintOrderOfErrors(t *testing.T) {
	long := strings.Repeat("y", api.MaxLine)
	checkTooLong(t, of("A", lines("X", long), of("B", lines("X", long))))
	checkNotFormed(t, of("a", lines("X", long)))
	checkNotFormed(t, of("A", lines("X", long, "x", "y")))
	checkNotFormed(t, of("A", lines("X", long, "END", "A")))
	checkNotFormed(t, of("A", lines("X", long), of("B", nil), of("", nil)))
	checkNotFormed(t, of("A", lines("X", long), of("B", lines("X", "\n"))))
	checkNotFormed(t, of("A", lines("X", long), chain(api.MaxNest)))
	checkNotFormed(t, of("A", append(lines("X", long), some(api.MaxLines)...)))
}
