package tbl_test

import (
	"slices"
	"strings"
	"testing"

	"flong/api"
	"flong/cells"
	"flong/tbl"
	"flong/tree"
)

func row(s string) []api.Glyph {
	return cells.Of(s, 0)
}

func bold(s string) []api.Glyph {
	return cells.Of(s, api.Bold)
}

func rowOf(l ...[]api.Glyph) api.TableRow {
	return api.TableRow{Cells: l}
}

func cellsOf(l ...string) api.TableRow {
	var r api.TableRow
	for _, s := range l {
		r.Cells = append(r.Cells, row(s))
	}
	return r
}

func rule() api.TableRow {
	return api.TableRow{Rule: true}
}

func table(cols string, l ...api.TableRow) api.Table {
	return api.Table{Cols: cols, Rows: l}
}

// boxed is t in a box.
func boxed(t api.Table) api.Table {
	t.Box = true
	return t
}

// at is what is wrong with a line, wherever in it that is.
func at(kind int, line int) api.Diag {
	return api.Diag{Kind: kind, Line: line}
}

func in(kind int, line int, col int) api.Diag {
	return api.Diag{Kind: kind, Line: line, Col: col}
}

func told(l ...api.Diag) []api.Diag {
	return l
}

// words is n words.
func words(n int, s string) string {
	return strings.Join(slices.Repeat([]string{s}, n), " ")
}

func TestLook(t *testing.T) {
	for _, c := range []struct {
		s            string
		box, all, ok bool
	}{
		{"box;", true, false, true},
		{"allbox;", true, true, true},
		{";", false, false, true},
		{" ,, ;", false, false, true},
		{"box box;", true, false, true},
		{"box allbox;", true, true, true},
		{"allbox,box;", true, true, true},
		{",allbox, , allbox ,;", true, true, true},
		{"  box ,  ;", true, false, true},
		{"box;;", false, false, false},
		{";;", false, false, false},
		{"box ;;", false, false, false},
		{"; box;", false, false, false},
		{"", false, false, false},
		{"box", false, false, false},
		{"allbox", false, false, false},
		{"box; ", false, false, false},
		{"box;\t", false, false, false},
		{"box;.", false, false, false},
		{"Box;", false, false, false},
		{"ALLBOX;", false, false, false},
		{"boxx;", false, false, false},
		{"bo;", false, false, false},
		{"all box;", false, false, false},
		{"allboxbox;", false, false, false},
		{"box\tbox;", false, false, false},
		{"box\t;", false, false, false},
		{"box center;", false, false, false},
		{"center allbox;", false, false, false},
		{"allbox center;", false, false, false},
		{"box\u00a0;", false, false, false},
		{"\xff;", false, false, false},
		{"box\x00;", false, false, false},
	} {
		if box, all, ok := tbl.Look(c.s); box != c.box || all != c.all || ok != c.ok {
			t.Errorf("Look of %+q: %v %v %v", c.s, box, all, ok)
		}
	}
}

func TestColumns(t *testing.T) {
	for _, c := range []struct {
		s    string
		cols string
		ok   bool
	}{
		{"", "", true},
		{".", "", true},
		{" , .", "", true},
		{"l", "l", true},
		{"l c r", "lcr", true},
		{"l c r.", "lcr", true},
		{"l c r .", "lcr", true},
		{"r,c,l.", "rcl", true},
		{"L C R", "lcr", true},
		{" ,l,, r , ", "lr", true},
		{"lr", "l", true},
		{"rlx Cx l9 Lq.", "rcll", true},
		{"l.", "l", true},
		{"l..", "l", true},
		{"..", "l", false},
		{". l", "ll", false},
		{"l . r", "llr", false},
		{"r. c.", "rc", true},
		{"r .x.", "rl", false},
		{"x", "l", false},
		{"r n c", "rlc", false},
		{"r r |", "rrl", false},
		{"s r", "lr", false},
		{"_ r", "lr", false},
		{"; r", "lr", false},
		{"k m b d q s", "llllll", false},
		{"\tr", "l", false},
		{"r\tc", "r", true},
		{"r\u00a0c", "r", true},
		{"\u00a0r", "l", false},
		{"\u0121 \u4e00 \xff r", "lllr", false},
		{"\x0c \x12 \x00", "lll", false},
		{", \xec\xec r", "lr", false},
		{words(21, "r") + ".", strings.Repeat("r", 21), true},
		{words(300, "Cx"), strings.Repeat("c", 300), true},
	} {
		if cols, ok := tbl.Columns(c.s); cols != c.cols || ok != c.ok {
			t.Errorf("Columns of %+q: %q %v", c.s, cols, ok)
		}
	}
}

// Each byte by itself is a word of no column, but few.
func TestColumnsOfEachByte(t *testing.T) {
	for i := range 256 {
		s := string([]byte{byte(i)})
		want, ok := "l", strings.Contains("lcrLCR", s)
		switch {
		case ok:
			want = strings.ToLower(s)
		case strings.Contains(" ,.", s):
			want, ok = "", true
		}
		if cols, k := tbl.Columns(s); cols != want || k != ok {
			t.Errorf("Columns of %+q: %q %v", s, cols, k)
		}
	}
}

func TestCut(t *testing.T) {
	for _, c := range []struct {
		s    string
		want []string
	}{
		{"", []string{""}},
		{"a", []string{"a"}},
		{"\t", []string{"", ""}},
		{"a\tb", []string{"a", "b"}},
		{" a b \t c\t", []string{" a b ", " c", ""}},
		{"\t\ta", []string{"", "", "a"}},
		{`a\tb`, []string{`a\tb`}},
		{"a\nb\x00\tT{\t\xff", []string{"a\nb\x00", "T{", "\xff"}},
	} {
		if got := tbl.Cut(c.s); !slices.Equal(got, c.want) {
			t.Errorf("Cut of %+q: %q", c.s, got)
		}
	}
}

type parsed struct {
	what  string
	l     []string
	t     api.Table
	diags []api.Diag
}

// lines is the lines of a text.
func lines(s string) []string {
	return strings.Split(s, "\n")
}

// parses holds Parse against what is wanted, of lines of which the first has the number 1.
func parses(t *testing.T, list []parsed) {
	t.Helper()
	for _, c := range list {
		got, diags := tbl.Parse(1, c.l...)
		if !tree.SameTable(got, c.t) || !slices.Equal(diags, c.diags) {
			t.Errorf("%s: %v %v, want %v %v", c.what, got, diags, c.t, c.diags)
		}
		if !tree.Right(api.Table{Cols: got.Cols, Rows: append(got.Rows, rule()), Box: got.Box, All: got.All}) {
			t.Errorf("%s: not right: %v", c.what, got)
		}
	}
}

func TestParseLook(t *testing.T) {
	parses(t, []parsed{
		{"no look", lines("l.\na"), table("l", cellsOf("a")), nil},
		{"a box", lines("box;\nr.\na"), boxed(table("r", cellsOf("a"))), nil},
		{"a box around all", lines("allbox;\nr."), api.Table{Cols: "r", Box: true, All: true}, nil},
		{"a look of nothing", lines(";\nr."), table("r"), nil},
		{"no word of a look", lines("box center;\nr."), table("r"), told(at(api.BadTable, 1))},
		{"all, then no word of a look", lines("allbox center;\nr."), table("r"), told(at(api.BadTable, 1))},
		{"columns, ended as a look", lines("c c;\nr."), table("r"), told(at(api.BadTable, 1))},
		{"a blank behind a look is none", lines("box; \nr."), table("r"), told(at(api.BadTable, 1))},
		{"a look without its end", lines("box\nr."), table("r"), told(at(api.BadTable, 1))},
		{"a look in the second line", lines("r\nbox;\nc."), table("c"), told(at(api.BadTable, 2))},
		{"two looks", lines("box;\nallbox;\nc."), boxed(table("c")), told(at(api.BadTable, 2))},
		{"a look, a point behind it", lines("box;.\nr"), table("l", cellsOf("r")), told(at(api.BadTable, 1))},
		{"a look among the cells", lines("r.\nbox;"), table("r", cellsOf("box;")), nil},
		{"a look alone", lines("allbox;"), api.Table{Cols: "l", Box: true, All: true}, told(at(api.NotClosed, 1))},
		{"no look alone", lines("x;"), table("l"), told(at(api.BadTable, 1), at(api.NotClosed, 1))},
	})
}

func TestParseColumns(t *testing.T) {
	parses(t, []parsed{
		{"no line", nil, table("l"), told(at(api.NotClosed, 1))},
		{"a line of nothing", lines(""), table("l"), told(at(api.NotClosed, 1))},
		{"one", lines("r."), table("r"), nil},
		{"no row", lines("l C Rx."), table("lcr"), nil},
		{"the last line counts", lines("l l l\nc r\nr c.\na\tb"), table("rc", cellsOf("a", "b")), nil},
		{"the last line with words counts", lines("c r\n\n , \n."), table("cr"), nil},
		{"a point alone", lines(".\na"), table("l", cellsOf("a")), nil},
		{"a point behind blanks", lines("r c\n ,.\na\tb"), table("rc", cellsOf("a", "b")), nil},
		{"the first point ends them", lines("r.\nc.\n."), table("r", cellsOf("c."), cellsOf(".")), nil},
		{"a point, and a blank behind it", lines("r. \nc."), table("c"), nil},
		{"a point ahead", lines(".r\nc."), table("c"), told(at(api.BadTable, 1))},
		{"signs of no column", lines("q\nl n r\nr x."), table("rl"), told(at(api.BadTable, 1), at(api.BadTable, 2), at(api.BadTable, 3))},
		{"no end", lines("l\nr\nc"), table("c"), told(at(api.NotClosed, 1))},
		{"no end, behind a look", lines("box;\nr\n_\tx"), boxed(table("l")), told(at(api.BadTable, 3), at(api.NotClosed, 1))},
		{"no end, and no words", lines("r\n\n"), table("r"), told(at(api.NotClosed, 1))},
	})
}

func TestParseManyColumns(t *testing.T) {
	most, more := words(api.MaxCols, "r"), words(api.MaxCols+1, "r")
	cols := strings.Repeat("r", api.MaxCols)
	parses(t, []parsed{
		{"as many as there may be", []string{most + "."}, table(cols), nil},
		{"as many, and a point by itself", []string{most + " ."}, table(cols), nil},
		{"one more", []string{more + "."}, table(cols), told(at(api.TooMany, 1))},
		{"more in a line that does not count", []string{more, "c."}, table("c"), told(at(api.TooMany, 1))},
		{"more in each", []string{more, more, more + "."}, table(cols), told(at(api.TooMany, 1), at(api.TooMany, 2), at(api.TooMany, 3))},
		{"more, and the first is wrong", []string{"x " + most + "."}, table("l" + cols[1:]), told(at(api.BadTable, 1), at(api.TooMany, 1))},
		{"more, and the last is wrong", []string{most + " x."}, table(cols), told(at(api.BadTable, 1), at(api.TooMany, 1))},
		{"more, and no end", []string{more}, table(cols), told(at(api.TooMany, 1), at(api.NotClosed, 1))},
		{"as many cells", []string{most + ".", strings.Repeat("\t", api.MaxCols-1)}, table(cols, cellsOf(make([]string, api.MaxCols)...)), nil},
		{"more cells", []string{more + ".", strings.Repeat("\t", api.MaxCols)}, table(cols, cellsOf(make([]string, api.MaxCols)...)), told(at(api.TooMany, 1), at(api.TooMany, 2))},
	})
}

func TestParseRows(t *testing.T) {
	parses(t, []parsed{
		{"cells", lines("l r.\na\tb\nc d\te"), table("lr", cellsOf("a", "b"), cellsOf("c d", "e")), nil},
		{"rules", lines("l.\n_\na\n=\n="), table("l", rule(), cellsOf("a"), rule(), rule()), nil},
		{"nothing alone", lines("l r.\n_ \n =\n__\n_\t\n\t=\n\\&_\n-"), table("lr", cellsOf("_", ""), cellsOf("=", ""), cellsOf("__", ""), cellsOf("_", ""), cellsOf("", "="), cellsOf("_", ""), cellsOf("-", "")), nil},
		{"too few cells", lines("l r c.\na\tb\n\nc\n\t\td"), table("lrc", cellsOf("a", "b", ""), cellsOf("", "", ""), cellsOf("c", "", ""), cellsOf("", "", "d")), nil},
		{"too many cells", lines("l.\na\tb\nc\td\te\n\t"), table("l", cellsOf("a"), cellsOf("c"), cellsOf("")), told(at(api.TooMany, 2), at(api.TooMany, 3), at(api.TooMany, 4))},
		{"blanks", lines("l l.\n  a   b \t  "), table("ll", cellsOf("a b", "")), nil},
		{"hard blanks stay", lines("l.\n \\ a\\0 \\~ b"), table("l", cellsOf("\u00a0a\u00a0 \u00a0 b")), nil},
		{"any bytes", lines("l.\na\xff\u4e00\u0301"), table("l", cellsOf("a\ufffd\u4e00\u0301")), nil},
		{"a comment ends with its cell", lines("l l.\na\\\"b\tc"), table("ll", cellsOf("a", "c")), nil},
	})
}

func TestParseGlyphs(t *testing.T) {
	joined := append(row("a "), bold("b")...)
	parses(t, []parsed{
		{"set", lines(`l l.` + "\n" + `a \fBb` + "\tc\n\\fBd"), table("ll", rowOf(joined, row("c")), rowOf(bold("d"), nil)), nil},
		{"back is plain at a cell's begin", lines("l l.\n\\fBa\t\\fPb"), table("ll", rowOf(bold("a"), row("b"))), nil},
		{"blanks of any set", lines("l.\n\\fB\\[u0020] a\\[u0020]\\[u0020]b "), table("l", rowOf(slices.Concat(bold("a"), row(" "), bold("b")))), nil},
		{"each line of one from 0 on", lines("l.\nT{\n\\fBa\nb\n\\fPc\nT}"), table("l", rowOf(slices.Concat(bold("a"), row(" b c")))), nil},
		{"what is wrong", lines("l l.\na\\q\\(zz\t\x01\n\\\n\\q"), table("ll", cellsOf("a", "\ufffd"), cellsOf("", ""), cellsOf("", "")), told(
			in(api.BadEscape, 2, 2), in(api.BadName, 2, 4), in(api.BadByte, 2, 1), in(api.BadEscape, 3, 1), in(api.BadEscape, 4, 1))},
		{"wrong in what is left out", lines("l.\n\\q\tb\t\\q"), table("l", cellsOf("")), told(in(api.BadEscape, 2, 1), in(api.BadEscape, 2, 1), at(api.TooMany, 2))},
		{"nothing is wrong in other lines", lines("\\q;\n\\q\nl.\n_\n="), table("l", rule(), rule()), told(at(api.BadTable, 1), at(api.BadTable, 2))},
	})
}

func TestParseBlocks(t *testing.T) {
	parses(t, []parsed{
		{"one", lines("l r.\na\tT{\nb\nc  d\nT}\ne"), table("lr", cellsOf("a", "b c d"), cellsOf("e", "")), nil},
		{"of no line", lines("l.\nT{\nT}\na"), table("l", cellsOf(""), cellsOf("a")), nil},
		{"of lines of nothing", lines("l.\nT{\n\n a\n\n  \n\\&\nb \n\nT}"), table("l", cellsOf("a b")), nil},
		{"of lines of anything", lines("l l.\nT{\n_\na\tb\n=\nl.\nbox;\nT{\n T}\nT }\nT"), table("ll", cellsOf("_ a b = l. box; T{ T} T } T", "")), told(at(api.NotClosed, 2))},
		{"what stands behind the begin", lines("l l.\nT{\tb\\q\tT{\na\nT}"), table("ll", cellsOf("a", "")), nil},
		{"what stands behind the end", lines("l l.\nT{\na\nT}b\\q\n_"), table("ll", cellsOf("a", ""), rule()), nil},
		{"cells behind the end", lines("l l l.\nT{\na\nT}b\t c \td\ne"), table("lll", cellsOf("a", "c", "d"), cellsOf("e", "", "")), nil},
		{"several", lines("l l l.\nT{\na\nT}\tb\tT{\nc\nT}\nd"), table("lll", cellsOf("a", "b", "c"), cellsOf("d", "", "")), nil},
		{"one behind the other", lines("l l l.\nT{\na\nT}\tT{\nb\nT}\tT{\nc\nT}\t"), table("lll", cellsOf("a", "b", "c")), told(at(api.TooMany, 2))},
		{"a cell behind the end that is a rule's", lines("l l.\nT{\na\nT}\t_"), table("ll", cellsOf("a", "_")), nil},
		{"none", lines("l l.\n T{\nT{ \nT{a\n\\&T{\tb"), table("ll", cellsOf("T{", ""), cellsOf("T{", ""), cellsOf("T{a", ""), cellsOf("T{", "b")), nil},
		{"no begin", lines("l l.\na\nT}\tb"), table("ll", cellsOf("a", ""), cellsOf("T}", "b")), nil},
		{"among the columns", lines("T{\nr."), table("r"), told(at(api.BadTable, 1))},
		{"no end", lines("l l.\na\tT{\nb\n_\nc"), table("ll", cellsOf("a", "b _ c")), told(at(api.NotClosed, 2))},
		{"no end, and no line", lines("l.\nT{"), table("l", cellsOf("")), told(at(api.NotClosed, 2))},
		{"no end of the second one", lines("l l.\nT{\na\nT}\tT{\nb"), table("ll", cellsOf("a", "b")), told(at(api.NotClosed, 4))},
		{"left out", lines("l.\na\tT{\nb\\q\nT}\tc\nd"), table("l", cellsOf("a"), cellsOf("d")), told(in(api.BadEscape, 3, 2), at(api.TooMany, 2))},
	})
}

// What is wrong is told in the order in which it is found, and of a row TooMany is told last.
func TestParseOrder(t *testing.T) {
	more := words(api.MaxCols, "c") + " x"
	l := []string{"x;", "q", more, "l r.", "\\q\tT{", "\\(zz", "", "a\\q", "T}\\q\t\\q\tb", "\x02\t\t", "_", "c\tT{\tc", "\\", "T}\tT{", "d\\q"}
	want := table("lr", cellsOf("", "a"), cellsOf("\ufffd", ""), rule(), cellsOf("c", ""))
	for _, line := range []int{1, 0, -7, 1000, api.MaxPlace} {
		n := line - 1
		diags := told(
			at(api.BadTable, n+1), at(api.BadTable, n+2), at(api.BadTable, n+3), at(api.TooMany, n+3),
			in(api.BadEscape, n+5, 1), in(api.BadName, n+6, 1), in(api.BadEscape, n+8, 2), in(api.BadEscape, n+9, 1), at(api.TooMany, n+5),
			in(api.BadByte, n+10, 1), at(api.TooMany, n+10),
			in(api.BadEscape, n+13, 1), in(api.BadEscape, n+15, 2), at(api.NotClosed, n+14), at(api.TooMany, n+12),
		)
		if got, wrong := tbl.Parse(line, l...); !tree.SameTable(got, want) || !slices.Equal(wrong, diags) {
			t.Errorf("Parse from %d on: %v %v, want %v", line, got, wrong, diags)
		}
	}
}

func TestPrint(t *testing.T) {
	for _, c := range []struct {
		what string
		t    api.Table
		want string
	}{
		{"nothing", api.Table{}, "l."},
		{"columns", table("lcr"), "l c r."},
		{"columns that may not be", table("l x\xffR" + strings.Repeat("c", 30)), "l" + strings.Repeat(" c", 19) + "."},
		{"a box", boxed(table("r")), "box;\nr."},
		{"a box around all", api.Table{Cols: "r", Box: true, All: true}, "allbox;\nr."},
		{"all, and no box", api.Table{Cols: "r", All: true}, "r."},
		{"cells", table("lr", cellsOf("a", "b c"), cellsOf("\u4e00\u0301", "d")), "l r.\na\tb c\n\u4e00\u0301\td"},
		{"blanks", table("lr", cellsOf(" a  b ", "  ")), "l r.\na b\t"},
		{"rules", table("lr", rule(), api.TableRow{Rule: true, Cells: cellsOf("a", "b").Cells}), "l r.\n_\n_"},
		{"too few cells", table("lrc", cellsOf("a"), api.TableRow{}), "l r c.\na\t\t\n\t\t"},
		{"too many cells", table("lr", cellsOf("a", "b", "c")), "l r.\na\tb"},
		{"what would be a rule", table("l", cellsOf("_"), cellsOf("="), cellsOf("__"), cellsOf("= =")), "l.\n\\&_\n\\&=\n__\n= ="},
		{"what would be a rule alone", table("lr", cellsOf("_", "="), cellsOf("", "_")), "l r.\n\\&_\t\\&=\n\t\\&_"},
		{"what would be one once it is squeezed", table("l", cellsOf(" _ "), cellsOf("= ")), "l.\n\\&_\n\\&="},
		{"what would go on", table("lr", cellsOf("T{", "b"), cellsOf("T{a", "T{")), "l r.\n\\&T{\tb\nT{a\t\\&T{"},
		{"what would end", table("lr", cellsOf("T}", "T}")), "l r.\nT}\tT}"},
		{"an only cell of nothing", table("c", cellsOf(""), cellsOf(" "), api.TableRow{}), "c.\n\\&\n\\&\n\\&"},
		{"what is set", table("l", rowOf(bold("a b")), rowOf(bold("_"))), "l.\na b\n\\&_"},
		{"a backslash", table("lr", cellsOf(`a\`, `\&b`)), "l r.\na\\\t\\&b"},
		{"controls", table("lr", cellsOf("\x00a\tb\n", "\x1f\x7f\u0080\u009f\u2028\u2029c\r")), "l r.\nab\tc"},
		{"what would be a rule without controls", table("l", cellsOf("\x01_"), cellsOf("=\u2028"), cellsOf("T\t{"), cellsOf("\x02")), "l.\n\\&_\n\\&=\n\\&T{\n\\&"},
		{"what is as good as a control", table("l", cellsOf("!~\u00a0\u2027\u202a")), "l.\n!~\u00a0\u2027\u202a"},
		{"blanks around a control", table("l", cellsOf("\x01 a \x02 b")), "l.\n a  b"},
		{"no runes", table("l", rowOf([]api.Glyph{{R: -1}, {R: 'a'}, {R: -1 << 31}, {R: 0xd800}, {R: 0x110000}})), "l.\na\ufffd\ufffd"},
	} {
		if got := tbl.Print(c.t); !slices.Equal(got, lines(c.want)) {
			t.Errorf("Print of %s: %q", c.what, got)
		}
	}
}

// Of each rune the bytes are printed that cells.Text has, or none.
func TestPrintOfEachRune(t *testing.T) {
	control := func(r rune) bool {
		return r < 0x20 || 0x7f <= r && r <= 0x9f || r == 0x2028 || r == 0x2029
	}
	for r := rune(-0x100); r < 0x110100; r++ {
		l := []api.Glyph{{R: 'a'}, {R: r}, {R: 'b'}}
		want := cells.Text(l...)
		if control(r) {
			want = "ab"
		}
		if got := tbl.Print(table("l", rowOf(l))); got[1] != want {
			t.Fatalf("Print of %x: %+q", r, got)
		}
	}
}
