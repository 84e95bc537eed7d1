package mdoc_test

import (
	"math"
	"slices"
	"strings"
	"testing"

	"flong/api"
	"flong/cells"
	"flong/lines"
	"flong/man"
	"flong/mdoc"
	"flong/tree"
)

// rows is a row of each text.
func rows(texts ...string) [][]api.Glyph {
	var out [][]api.Glyph
	for _, s := range texts {
		out = append(out, row(s))
	}
	return out
}

func section(line int, s string, kids ...api.Node) api.Node {
	return api.Node{Kind: api.Section, Line: line, Text: row(s), Kids: kids}
}

func sub(line int, s string, kids ...api.Node) api.Node {
	return api.Node{Kind: api.Sub, Line: line, Text: row(s), Kids: kids}
}

func para(line int, s string) api.Node {
	return paraOf(line, row(s))
}

func paraOf(line int, l ...[]api.Glyph) api.Node {
	return api.Node{Kind: api.Para, Line: line, Text: seq(l...)}
}

// tag is an item of no text.
func tag(line int, kids ...api.Node) api.Node {
	return tagOf(line, 0, nil, kids...)
}

func tagOf(line int, n int, l []api.Glyph, kids ...api.Node) api.Node {
	return api.Node{Kind: api.Tag, Line: line, N: n, Text: l, Kids: kids}
}

// list is what a list makes.
func list(line int, kids ...api.Node) api.Node {
	return api.Node{Kind: api.Indent, Line: line, Kids: kids}
}

// display is what one that is not literal makes.
func display(line int, kids ...api.Node) api.Node {
	return api.Node{Kind: api.Indent, Line: line, N: 7, Kids: kids}
}

func verb(line int, l ...[]api.Glyph) api.Node {
	return api.Node{Kind: api.Verb, Line: line, Rows: l}
}

func nodes(l ...api.Node) []api.Node {
	return l
}

// at is what is wrong with a line, wherever in it that is.
func at(kind int, line int) api.Diag {
	return api.Diag{Kind: kind, Line: line}
}

func in(kind int, line int, col int) api.Diag {
	return api.Diag{Kind: kind, Line: line, Col: col}
}

func told(l ...api.Diag) []api.Diag {
	return l
}

func macro(line int, name string, args ...string) api.Row {
	return api.Row{Line: line, Macro: name, Args: args}
}

// titled is the rows of a text, behind a title that is none of its lines.
func titled(s string) []api.Row {
	l, _ := lines.Read(s)
	return append([]api.Row{macro(0, "Dt", "x")}, l...)
}

type page struct {
	what  string
	s     string
	want  []api.Node
	diags []api.Diag
}

// tells holds what titled pages tell against what they should.
func tells(t *testing.T, pages ...page) {
	t.Helper()
	for _, p := range pages {
		d, diags := mdoc.Parse(titled(p.s)...)
		if !tree.Same(d.Kids, p.want) {
			t.Errorf("%s: %q: %v, want %v", p.what, p.s, d.Kids, p.want)
		}
		if !slices.Equal(diags, p.diags) {
			t.Errorf("%s: %q: %v, want %v", p.what, p.s, diags, p.diags)
		}
	}
}

func b(s string) []api.Glyph {
	return cells.Of(s, bold)
}

func i(s string) []api.Glyph {
	return cells.Of(s, slant)
}

func TestTitle(t *testing.T) {
	none := at(api.NoTitle, 0)
	for _, c := range []struct {
		s                        string
		name, part, date, source string
		diags                    []api.Diag
	}{
		{"", "", "", "", "", told(none)},
		{".Dt", "", "", "", "", nil},
		{".Dt a", "a", "", "", "", nil},
		{".Dt a 1 b c", "a", "1", "", "", nil},
		{`.Dt "a b" "" c`, "a b", "", "", "", nil},
		{`.Dt a\qb \fBc`, `a\qb`, `\fBc`, "", "", nil},
		{".Dd", "", "", "", "", told(none)},
		{".Dd May 1, 2020", "", "", "May 1, 2020", "", told(none)},
		{`.Dd "a  b"  "" c\q`, "", "", `a  b  c\q`, "", told(none)},
		{".Os", "", "", "", "", told(none)},
		{".Os A B", "", "", "", "A B", told(none)},
		{".Dd May\n.Dt a 1\n.Os A", "a", "1", "May", "A", nil},
		{".Os A\n.Sh b\nc\n.Dt a 1\n.Bl -tag\n.It\n.Dd May", "a", "1", "May", "A", told(at(api.NotClosed, 5))},
		// What is told later counts.
		{".Dt a 1\n.Dt b", "b", "", "", "", nil},
		{".Dt a 1\n.Dt", "", "", "", "", nil},
		{".Dd May\n.Os A\n.Dd June 1\n.Os\n.Dt a", "a", "", "June 1", "", nil},
		{".Bd -literal\n.Dt a\n.Dd b\n.Os c\n.Ed", "", "", "", "", told(at(api.NotHere, 2), at(api.NotHere, 3), at(api.NotHere, 4), none)},
		{".TH a 1", "", "", "", "", told(at(api.BadMacro, 1), none)},
		{".dt a", "", "", "", "", told(at(api.BadMacro, 1), none)},
	} {
		d, diags := mdoc.Read(c.s)
		if d.Name != c.name || d.Part != c.part || d.Date != c.date || d.Source != c.source {
			t.Errorf("%q: %q %q %q %q", c.s, d.Name, d.Part, d.Date, d.Source)
		}
		if !slices.Equal(diags, c.diags) {
			t.Errorf("%q: %v, want %v", c.s, diags, c.diags)
		}
	}
	// A title stands beside the text, wherever it comes.
	d, diags := mdoc.Read("a\n.Dt x\nb\n.Dd y\nc\n.Os z\nd")
	if !tree.Same(d.Kids, nodes(para(1, "a b c d"))) || len(diags) > 0 {
		t.Error(d, diags)
	}
}

func TestText(t *testing.T) {
	tells(t,
		page{"nothing", "", nil, nil},
		page{"text", "a\nb  c\n d ", nodes(para(1, "a b c d")), nil},
		page{"a line of nothing parts", "a\n\nb\n\n\nc", nodes(para(1, "a"), para(3, "b"), para(6, "c")), nil},
		page{"so does one of blanks", "a\n  \nb\n\t\nc", nodes(para(1, "a"), para(3, "b"), para(5, "c")), nil},
		page{"and one of which nothing is left", "a\n\\&\nb\n\\fB \\[u0020]\nc", nodes(para(1, "a"), para(3, "b"), para(5, "c")), nil},
		page{"a hard blank is text", "a\n\\ \nb", nodes(para(1, "a \u00a0 b")), nil},
		page{"each line is set anew", "a\\fBb\nc", nodes(paraOf(1, row("a"), b("b"), row(" c"))), nil},
		page{"Pp parts", "a\n.Pp\nb\n.Pp x y\n.Pp\nc", nodes(para(1, "a"), para(3, "b"), para(6, "c")), nil},
		page{"macros of lines", "a\n.Em b c\n.Op Fl d Ar e ,\nf", nodes(paraOf(1, row("a "), i("b"), row(" "), i("c"), row(" ["), b("-d"), row(" "), i("e"), row(",] f"))), nil},
		page{"each of them", ".Ar\n.Cm a\n.Em b\n.Fl c\n.Li d\n.Nm e\n.No f\n.Op g\n.Sy h\n.Xr k 1", nodes(paraOf(1, i("file"), row(" "), i("..."), row(" "), b("a"), row(" "), i("b"), row(" "), b("-c"), row(" d "), b("e"), row(" f [g] "), b("h"), row(" "), b("k"), row("(1)"))), nil},
		page{"signs do not stick from line to line", ".No a (\n.No b\n.No , c\n.Op d\n.No . e", nodes(para(1, "a ( b , c [d] . e")), nil},
		page{"a macro begins a paragraph", "\n.Sy a", nodes(paraOf(2, b("a"))), nil},
		page{"one that says nothing ends none", "a\n.Em\nb\n.No \"\"\nc\n.No \" \"\n.Li \\&\nd", nodes(para(1, "a b c d")), nil},
		page{"and begins one", ".Em\na", nodes(para(1, "a")), nil},
		page{"what is wrong", "a\\q\n.No b \\(zz Fl \\q\n\x01\n\\q", nodes(paraOf(1, row("a b "), b("-"), row(" \ufffd"))), told(in(api.BadEscape, 1, 2), in(api.BadName, 2, 1), in(api.BadEscape, 2, 1), in(api.BadByte, 3, 1), in(api.BadEscape, 4, 1))},
		page{"no macro", "a\n.Zz\nb\n.op c\n.B d\n.SH E\n.Opp", nodes(para(1, "a b")), told(at(api.BadMacro, 2), at(api.BadMacro, 4), at(api.BadMacro, 5), at(api.BadMacro, 6), at(api.BadMacro, 7))},
	)
}

// A name goes on from row to row, wherever it is told.
func TestName(t *testing.T) {
	tells(t,
		page{"none is known", ".Nm\n.No a\n.Nm .", nodes(paraOf(1, row("a ."))), nil},
		page{"the first counts", ".Nm\n.Nm a\n.Nm b\n.Nm\n.Op Nm .", nodes(paraOf(1, b("a"), row(" "), b("b"), row(" "), b("a"), row(" ["), b("a"), row(".]"))), nil},
		page{"that has a byte", ".Nm \"\"\n.Nm , a\n.Nm", nodes(paraOf(1, row(", "), b("a"), row(" "), b("a"))), nil},
		page{"within a line", ".Em a Nm b Nm\nc\n.Nm", nodes(paraOf(1, i("a"), row(" "), b("b"), row(" "), b("b"), row(" c "), b("b"))), nil},
		page{"from a tag on, and in one", ".Bl -tag\n.It Nm a\n.Nm\n.It Nm Ar\n.El\n.Nm b\n.Nm", nodes(list(1, tagOf(2, 7, b("a"), paraOf(3, b("a"))), tagOf(4, 7, seq(b("a"), row(" "), i("file"), row(" "), i("...")))), paraOf(6, b("b"), row(" "), b("a"))), nil},
		page{"not from an item that has no tag", ".Bl -item\n.It Nm a\n.Nm\n.Nm b\n.Nm\n.El", nodes(list(1, tag(2, paraOf(3, b("b"), row(" "), b("b"))))), nil},
		page{"nor from a heading", ".Sh Nm a\n.Nm b\n.Nm", nodes(section(1, "Nm a", paraOf(2, b("b"), row(" "), b("b")))), nil},
		page{"as it is", ".Nm a\\fIb\\q\n.Bd -literal\n.Nm\n.Ed\n.Nm c", nodes(paraOf(1, b("a"), i("b")), verb(2, seq(b("a"), i("b"))), paraOf(5, b("c"))), told(in(api.BadEscape, 1, 6), in(api.BadEscape, 3, 6))},
	)
}

func TestHeadings(t *testing.T) {
	tells(t,
		page{"sections", ".Sh A\nb\n.Sh \"C  d\" e\nf", nodes(section(1, "A", para(2, "b")), section(3, "C d e", para(4, "f"))), nil},
		page{"text ahead", "a\n.Sh B", nodes(para(1, "a"), section(2, "B")), nil},
		page{"subs", ".Sh A\nb\n.Ss c\nd\n.Ss e\n.Sh F\n.Ss g", nodes(section(1, "A", para(2, "b"), sub(3, "c", para(4, "d")), sub(5, "e")), section(6, "F", sub(7, "g"))), nil},
		page{"a sub in no section", "a\n.Ss b\nc\n.Ss d\n.Sh E", nodes(para(1, "a"), para(2, "b"), para(3, "c"), para(4, "d"), section(5, "E")), nil},
		page{"each argument is set plain", ".Sh \\fBa b\n.Ss \\fIc", nodes(api.Node{Kind: api.Section, Line: 1, Text: seq(b("a"), row(" b")), Kids: nodes(api.Node{Kind: api.Sub, Line: 2, Text: i("c")})}), nil},
		page{"what is no macro there", ".Sh Op Fl a , b", nodes(section(1, "Op Fl a , b")), nil},
		page{"what is wrong in them", ".Sh a\\q \\(zz\n.Ss \\q\nb", nodes(section(1, "a", para(3, "b"))), told(in(api.BadEscape, 1, 2), in(api.BadName, 1, 1), in(api.BadEscape, 2, 1))},
		page{"of nothing", ".Sh \"\"\na\n.Ss \" \"\nb", nodes(para(2, "a"), para(4, "b")), nil},
		page{"without arguments", "a\n.Sh\nb\n.Ss\nc", nodes(para(1, "a"), para(3, "b"), para(5, "c")), told(at(api.BadArgs, 2), at(api.BadArgs, 4))},
		page{"a section without arguments shuts, too", ".Sh A\n.Ss b\n.Sh\nc\n.Ss d", nodes(section(1, "A", sub(2, "b")), para(4, "c"), para(5, "d")), told(at(api.BadArgs, 3))},
		page{"so does a sub", ".Sh A\n.Ss b\n.Ss\nc\n.Ss d", nodes(section(1, "A", sub(2, "b"), para(4, "c"), sub(5, "d"))), told(at(api.BadArgs, 3))},
		page{"a section closes blocks", ".Sh A\n.Bl -tag\n.It b\n.Bd\nc\n.Bl -item\n.It\nd\n.Sh E\nf\n.It", nodes(section(1, "A", list(2, tagOf(3, 7, row("b"), display(4, para(5, "c"), list(6, tag(7, para(8, "d"))))))), section(9, "E", para(10, "f"))), told(at(api.NotClosed, 6), at(api.NotClosed, 4), at(api.NotClosed, 2), at(api.NotHere, 11))},
		page{"so does a sub", ".Sh A\n.Ss b\n.Bl -item\n.It\nc\n.Bd\nd\n.Ss e\nf\n.Ed", nodes(section(1, "A", sub(2, "b", list(3, tag(4, para(5, "c"), display(6, para(7, "d"))))), sub(8, "e", para(9, "f")))), told(at(api.NotClosed, 6), at(api.NotClosed, 3), at(api.NotOpen, 10))},
		page{"without arguments, too", ".Bd\na\n.Sh\nb\n.Bl -item\n.Ss\nc", nodes(display(1, para(2, "a")), para(4, "b"), para(7, "c")), told(at(api.NotClosed, 1), at(api.BadArgs, 3), at(api.NotClosed, 5), at(api.BadArgs, 6))},
		page{"what is not closed is told ahead of what is wrong", ".Bd\na\n.Sh \\qb", nodes(display(1, para(2, "a")), section(3, "b")), told(at(api.NotClosed, 1), in(api.BadEscape, 3, 1))},
	)
}

func TestLists(t *testing.T) {
	tells(t,
		page{"tags", ".Bl -tag\n.It Fl a Ar b ,\nc\n.Pp\nd\n.It e\n.El\nf", nodes(list(1, tagOf(2, 7, seq(b("-a"), row(" "), i("b"), row(",")), para(3, "c"), para(5, "d")), tagOf(6, 7, row("e"))), para(8, "f")), nil},
		page{"bullets", ".Bl -bullet\n.It\na\n.It b \\q\n.El", nodes(list(1, tagOf(2, 2, row("\u2022"), para(3, "a")), tagOf(4, 2, row("\u2022")))), nil},
		page{"numbers", ".Bl -enum\n.It\na\n.It b \\q\n.It\n.El\n.Bl -enum\n.It\n.El", nodes(list(1, tagOf(2, 4, row("1."), para(3, "a")), tagOf(4, 4, row("2.")), tagOf(5, 4, row("3."))), list(7, tagOf(8, 4, row("1.")))), nil},
		page{"items", ".Bl -item\n.It\na\n.It b \\q\nc\n.El", nodes(list(1, tag(2, para(3, "a")), tag(4, para(5, "c")))), nil},
		page{"text ahead of the first item", "a\n.Bl -item\nb\n.It\nc\n.El\nd", nodes(para(1, "a"), list(2, para(3, "b"), tag(4, para(5, "c"))), para(7, "d")), nil},
		page{"of nothing", "a\n.Bl -tag\n.El\nb\n.Bl -tag\n.It\n.El", nodes(para(1, "a"), para(4, "b"), list(5, tagOf(6, 7, nil))), nil},
		page{"a tag of signs, and of nothing", ".Bl -tag\n.It .\n.It \"\"\n.It Nm\n.It Op", nodes(list(1, tagOf(2, 7, row(".")), tagOf(3, 7, nil), tagOf(4, 7, nil), tagOf(5, 7, row("[]")))), told(at(api.NotClosed, 1))},
		page{"what is wrong in a tag", ".Bl -tag\n.It a\\q Fl \\(zz\n.El", nodes(list(1, tagOf(2, 7, seq(row("a "), b("-"))))), told(in(api.BadEscape, 2, 2), in(api.BadName, 2, 1))},
		page{"one within the other", ".Bl -enum\n.It\na\n.Bl -tag -width 3\n.It b\nc\n.It d\n.El\ne\n.It\n.Bl -bullet\n.It\n.El\n.It\nf\n.El\ng", nodes(list(1, tagOf(2, 4, row("1."), para(3, "a"), list(4, tagOf(5, 3, row("b"), para(6, "c")), tagOf(7, 3, row("d"))), para(9, "e")), tagOf(10, 4, row("2."), list(11, tagOf(12, 2, row("\u2022")))), tagOf(14, 4, row("3."), para(15, "f"))), para(17, "g")), nil},
		page{"within no item", ".Bl -item\n.Bl -item\n.It\na\n.El\n.It\nb\n.El", nodes(list(1, list(2, tag(3, para(4, "a"))), tag(6, para(7, "b")))), nil},
		page{"no items", "a\n.It b\nc\n.Bl -item\n.El\n.It \\q\nd\n.Sh E\n.It", nodes(para(1, "a c"), para(7, "d"), section(8, "E")), told(at(api.NotHere, 2), at(api.NotHere, 6), at(api.NotHere, 9))},
		page{"no items of a list around a display", ".Bl -item\n.It\na\n.Bd\nb\n.It\nc\n.El\nd\n.Ed\ne\n.El", nodes(list(1, tag(2, para(3, "a"), display(4, para(5, "b c d")), para(11, "e")))), told(at(api.NotHere, 6), at(api.NotOpen, 8))},
		page{"not open", "a\n.El\nb\n.Bl -item\n.El\nc\n.El", nodes(para(1, "a b"), para(6, "c")), told(at(api.NotOpen, 2), at(api.NotOpen, 7))},
		page{"not closed", "a\n.Bl -item\n.It\nb\n.Bl -enum\n.It\nc", nodes(para(1, "a"), list(2, tag(3, para(4, "b"), list(5, tagOf(6, 4, row("1."), para(7, "c")))))), told(at(api.NotClosed, 5), at(api.NotClosed, 2))},
		page{"arguments of El count for nothing", ".Bl -item\n.El -item\na", nodes(para(3, "a")), nil},
	)
}

// What a list's arguments tell: of each the tag of its first item, and how often they are wrong.
func TestListArguments(t *testing.T) {
	for _, c := range []struct {
		args  string
		n     int
		text  string
		wrong int
	}{
		{"-tag", 7, "a", 0},
		{"-bullet", 2, "\u2022", 0},
		{"-enum", 4, "1.", 0},
		{"-item", 0, "", 0},
		{"", 0, "", 1},
		{"_", 0, "", 1},
		{"tag", 0, "", 1},
		{"-Tag", 0, "", 1},
		{"-tags", 0, "", 1},
		{"-hang", 0, "", 1},
		{"x -tag", 0, "", 1},
		{"-compact -enum", 0, "", 1},
		{"-tag -enum", 7, "a", 0},
		{"-enum -tag", 4, "1.", 0},
		{"-tag -width 3", 3, "a", 0},
		{"-tag -width 0", 0, "a", 0},
		{"-tag -width 3n", 3, "a", 0},
		{"-tag -width 201", 200, "a", 0},
		{"-tag -width 999999", 200, "a", 0},
		{"-tag -compact -width 3 -offset 4", 3, "a", 0},
		{"-tag -width 3 -width 4", 3, "a", 0},
		{"-tag -width 3 -width x", 3, "a", 0},
		{"-tag -width x -width 3", 7, "a", 1},
		{"-tag -width -width 3", 7, "a", 1},
		{"-tag -width", 7, "a", 1},
		{"-tag -width _", 7, "a", 1},
		{"-tag -width -3", 7, "a", 1},
		{"-tag -width 1000000", 7, "a", 1},
		{"-tag -width Ds", 7, "a", 1},
		{"-tag -Width 3", 7, "a", 0},
		{"-tag 3", 7, "a", 0},
		{"-enum -width 9", 4, "1.", 0},
		{"-enum -width x", 4, "1.", 1},
		{"-bullet -width", 2, "\u2022", 1},
		{"-item -width 9", 0, "", 0},
		{"-width 3", 0, "", 1},
		{"-width -tag", 0, "", 2},
		{"-width", 0, "", 2},
		{"x -width y", 0, "", 2},
		{"_ -width _", 0, "", 2},
	} {
		d, diags := mdoc.Parse(macro(1, "Dt"), macro(2, "Bl", words(c.args)...), macro(3, "It", "a"), macro(4, "El"))
		if want := nodes(list(2, tagOf(3, c.n, row(c.text)))); !tree.Same(d.Kids, want) {
			t.Errorf("%q: %v", c.args, d.Kids)
		}
		if !slices.Equal(diags, slices.Repeat(told(at(api.BadArgs, 2)), c.wrong)) {
			t.Errorf("%q: %v", c.args, diags)
		}
	}
}

func TestDisplays(t *testing.T) {
	tells(t,
		page{"text", "a\n.Bd\nb\n.Pp\n.Em c\n.Ed\nd", nodes(para(1, "a"), display(2, para(3, "b"), paraOf(5, i("c"))), para(7, "d")), nil},
		page{"of any arguments", ".Bd -filled\na\n.Ed\n.Bd x -literal\nb\n.Ed\n.Bd \"\"\nc\n.Ed x\n.Bd -Literal\nd\n.Ed", nodes(display(1, para(2, "a")), display(4, para(5, "b")), display(7, para(8, "c")), display(10, para(11, "d"))), nil},
		page{"of nothing", "a\n.Bd\n.Ed\nb", nodes(para(1, "a"), para(4, "b")), nil},
		page{"one within the other", ".Bd\na\n.Bd\nb\n.Ed\nc\n.Bl -item\n.It\n.Bd\nd\n.Ed\n.El\n.Ed\ne", nodes(display(1, para(2, "a"), display(3, para(4, "b")), para(6, "c"), list(7, tag(8, display(9, para(10, "d"))))), para(14, "e")), nil},
		page{"not open", "a\n.Ed\nb\n.Bl -item\n.It\nc\n.Ed\nd\n.El\n.Ed", nodes(para(1, "a b"), list(4, tag(5, para(6, "c d")))), told(at(api.NotOpen, 2), at(api.NotOpen, 7), at(api.NotOpen, 10))},
		page{"not open within a list in it", ".Bd\n.Bl -item\n.It\na\n.Ed\nb\n.El\n.Ed\nc", nodes(display(1, list(2, tag(3, para(4, "a b")))), para(9, "c")), told(at(api.NotOpen, 5))},
		page{"not closed", "a\n.Bd\nb\n.Bd\nc", nodes(para(1, "a"), display(2, para(3, "b"), display(4, para(5, "c")))), told(at(api.NotClosed, 4), at(api.NotClosed, 2))},
	)
}

func TestLiteral(t *testing.T) {
	tells(t,
		page{"rows as they are", "a\n.Bd -literal\n b  c \n\n\td\n.Ed\ne", nodes(para(1, "a"), verb(2, rows(" b  c ", "", " d")...), para(7, "e")), nil},
		page{"other arguments count for nothing", ".Bd -literal -offset x\na\n.Ed x\nb", nodes(verb(1, row("a")), para(4, "b")), nil},
		page{"rows that are set", ".Bd -literal\n.Op Fl a\n\\fIb\nc\n.Em\n.No \"\"\n.Ar .\n.Ed", nodes(verb(1, seq(row("["), b("-a"), row("]")), i("b"), row("c"), nil, nil, seq(i("file"), row(" "), i("..."), row(".")))), nil},
		page{"what is wrong in them", ".Bd -literal\na\\q\n.Em \\(zz\n.Ed", nodes(verb(1, row("a"), nil)), told(in(api.BadEscape, 2, 2), in(api.BadName, 3, 1))},
		page{"what may not be here", ".Bd -literal\na\n.Pp\n.Sh b\n.Ss b\n.Bd\n.Bl -item\n.It\n.El\n.Dd x\n.Dt x\n.Os x\n.Zz\n.B c\nd\n.Ed\ne", nodes(verb(1, rows("a", "d")...), para(17, "e")), told(at(api.NotHere, 3), at(api.NotHere, 4), at(api.NotHere, 5), at(api.NotHere, 6), at(api.NotHere, 7), at(api.NotHere, 8), at(api.NotHere, 9), at(api.NotHere, 10), at(api.NotHere, 11), at(api.NotHere, 12), at(api.NotHere, 13), at(api.NotHere, 14))},
		page{"within others", ".Sh A\n.Bl -item\n.It\n.Bd\nb\n.Bd -literal\nc\n.Ed\nd\n.Ed\ne\n.It\n.El\nf", nodes(section(1, "A", list(2, tag(3, display(4, para(5, "b"), verb(6, row("c")), para(9, "d")), para(11, "e")), tag(12)), para(14, "f"))), nil},
		page{"of nothing", "a\n.Bd -literal\n.Ed\nb\n.Bd -literal\n.Zz\n.Ed", nodes(para(1, "a"), para(4, "b")), told(at(api.NotHere, 6))},
		page{"not closed", ".Bl -item\n.It\na\n.Bd -literal\nb\n.Sh c\n\nd", nodes(list(1, tag(2, para(3, "a"), verb(4, rows("b", "", "d")...)))), told(at(api.NotHere, 6), at(api.NotClosed, 4), at(api.NotClosed, 1))},
		page{"not closed, of nothing", "a\n.Bd -literal", nodes(para(1, "a")), told(at(api.NotClosed, 2))},
	)
}

// deep is a page of n displays, that are lines 1 to n, and some behind.
func deep(n int, s string) string {
	return strings.Repeat(".Bd\n", n) + s
}

// within is what stands in n displays, that are lines from one on.
func within(from, n int, l ...api.Node) []api.Node {
	for line := from + n - 1; line >= from; line-- {
		l = nodes(display(line, l...))
	}
	return l
}

// unclosed is what is told of displays that are lines from one down to another.
func unclosed(from, to int) []api.Diag {
	var l []api.Diag
	for line := from; line >= to; line-- {
		l = append(l, at(api.NotClosed, line))
	}
	return l
}

func TestDeep(t *testing.T) {
	wrong := func(n int, l ...api.Diag) []api.Diag {
		return append(l, unclosed(n, 1)...)
	}
	tells(t,
		page{"an item that is the last", deep(18, ".Bl -tag\n.It a\n.It b\nc\n.El\nd"), within(1, 18, list(19, tagOf(20, 7, row("a")), tagOf(21, 7, row("b"))), para(24, "d")), wrong(18)},
		page{"what was opened and closed counts no more", deep(19, strings.Repeat(".Bd\n.Ed\n", 5)+"a"), within(1, 19, para(30, "a")), wrong(19)},
		page{"a display that is too deep is not open", deep(20, ".Bd\na\n.Ed\nb\n.Bd -filled\n.Bd"), within(1, 19, para(24, "b")), wrong(19, at(api.TooDeep, 21), at(api.TooDeep, 26), at(api.NotClosed, 25))},
		page{"a list that is too deep is not open", deep(20, ".Bl -tag\n.It a\n.El\n.Ed\nb"), within(1, 19, para(25, "b")), wrong(19, at(api.TooDeep, 21), at(api.NotHere, 22), at(api.NotOpen, 23))},
		page{"what is wrong with it is told, too", deep(20, ".Bl x -width y\n.Ed\na"), within(1, 19, para(23, "a")), wrong(19, at(api.BadArgs, 21), at(api.BadArgs, 21), at(api.TooDeep, 21))},
		page{"an item that is too deep", deep(19, ".Bl -tag\n.It a\\q\n.It b\n.El\nc"), within(1, 19, para(24, "c")), wrong(19, in(api.BadEscape, 21, 2), at(api.TooDeep, 21), at(api.TooDeep, 22))},
		page{"a list that is not open ends no display", deep(19, ".Bd\n.Bl -item\n.Ed\na"), within(1, 19, para(23, "a")), wrong(19, at(api.TooDeep, 21))},
		page{"a row as it is is nothing that is opened", deep(19, ".Bd -literal\na\n.Ed\n.Bd\n.Bd -literal\nb\n.Ed\n.Ed\nc"), within(1, 19, verb(20, row("a")), para(28, "c")), wrong(19)},
	)
	// The item ahead that is around a list is not closed with one that is too deep.
	s := ".Bl -item\n.It\n" + strings.Repeat(".Bd\n", 17) + ".Bl -enum\n.It\n.It\n.El\na\n" + strings.Repeat(".Ed\n", 17) + "b\n.El"
	tells(t, page{"the item around it stays", s, nodes(list(1, tag(2, append(within(3, 17, para(24, "a")), para(42, "b"))...))), told(at(api.TooDeep, 21), at(api.TooDeep, 22))})
	// Headings count, too, and are never too deep.
	s = ".Sh A\n.Ss b\n" + deep(18, ".Bd\n.Ss c\nd\n.Sh E")
	tells(t, page{"headings", s, nodes(section(1, "A", sub(2, "b"), sub(22, "c", para(23, "d"))), section(24, "E")), append(told(at(api.TooDeep, 21)), unclosed(20, 3)...)})
}

func TestKind(t *testing.T) {
	for _, c := range []struct {
		macros string
		want   int
	}{
		{"", 1},
		{"_", 1},
		{"Dd", 2},
		{"Dt", 2},
		{"Sh", 2},
		{"TH", 1},
		{"SH", 1},
		{"_ _ Sh", 2},
		{"Os Ss Bl It Nm Pp", 1},
		{"SS TP PP B", 1},
		{"SS TP PP B Dt", 2},
		{"Os Ss Nm TH Sh", 1},
		{"Sh TH SH", 2},
		{"SH Sh Dt Dd", 1},
		{"B Op Dd TH", 2},
		{"sh dd sH DT", 1},
	} {
		var l []api.Row
		for _, name := range words(c.macros) {
			l = append(l, macro(1, name, "Dt", "TH"))
		}
		if got := mdoc.Kind(l...); got != c.want {
			t.Errorf("%q: %d", c.macros, got)
		}
	}
	if mdoc.Kind(api.Row{Text: "Sh"}, api.Row{Text: ".Dt", Args: []string{"Dt"}}) != 1 {
		t.Error("a text is no macro")
	}
}

// Each text is read as its first macro that tells says.
func TestAny(t *testing.T) {
	for _, s := range []string{"", "a\n", ".Nm a\n.B b", ".TH a 1\n.Sh b\n.SH c", ".SH a\n.Dt b\n.Nm", ".TP\na\n.EX\n.Ss b\n.Nm", "a\\\n.Sh b", "\\\".Sh b\n.SH c\n.Dt d", ".B \"a\n.TH b\n\\q"} {
		d, diags := mdoc.Any(s)
		want, wrong := man.Read(s)
		if !tree.Same(d.Kids, want.Kids) || d.Name != want.Name || !slices.Equal(diags, wrong) {
			t.Errorf("%q: %v %v, want %v %v", s, d, diags, want, wrong)
		}
	}
	for _, s := range []string{".Dt a 1", ".Dd May\n.TH a 1\n.Op b", ".Sh a\n.SH b", "a\n.Pp\n.B b\n.Sh c\n.TP\n", "'Sh a", ". Dt a\n.SS b", ".TP\n.RS\n.Dt a\n.Nm \"b\n\\q"} {
		d, diags := mdoc.Any(s)
		want, wrong := mdoc.Read(s)
		if !tree.Same(d.Kids, want.Kids) || d.Name != want.Name || !slices.Equal(diags, wrong) {
			t.Errorf("%q: %v %v, want %v %v", s, d, diags, want, wrong)
		}
	}
	if d, _ := mdoc.Any(".TH a 2\n.Sh x\n"); d.Name != "a" || d.Part != "2" {
		t.Error(d)
	}
	if d, _ := mdoc.Any(".Dt a 2\n.TH b\n"); d.Name != "a" || d.Part != "2" {
		t.Error(d)
	}
}

// What is wrong with the lines is told first.
func TestRead(t *testing.T) {
	d, diags := mdoc.Read(".Dt a 1\n.Zz\n.Sh \"b\n.Bl -tag" + strings.Repeat(" 1", api.MaxArgs) + "\n.It Fl c\\\nd\\\" e\n.\\\" f\n.Em \"g  h\" .\n.El")
	want := nodes(section(3, "b", list(4, tagOf(5, 7, b("-cd"), paraOf(8, i("g"), row(" "), i("h"), row("."))))))
	if !tree.Same(d.Kids, want) || d.Name != "a" || d.Part != "1" {
		t.Error(d)
	}
	if !slices.Equal(diags, told(at(api.BadArgs, 3), at(api.TooMany, 4), at(api.BadMacro, 2))) {
		t.Error(diags)
	}
	d, diags = mdoc.Read("")
	if len(d.Kids) > 0 || !slices.Equal(diags, told(at(api.NoTitle, 0))) {
		t.Error(d, diags)
	}
	if _, diags = mdoc.Read(".Bl\n.No \\q\n.Bd -literal\n.Pp"); !slices.Equal(diags, told(at(api.BadArgs, 1), in(api.BadEscape, 2, 1), at(api.NotHere, 4), at(api.NotClosed, 3), at(api.NotClosed, 1), at(api.NoTitle, 0))) {
		t.Error(diags)
	}
}

// Rows may tell any lines: a node's is clipped, what is wrong is told where the row says.
func TestAnyLine(t *testing.T) {
	for _, line := range []int{math.MinInt, -1, 0, 1, api.MaxPlace, api.MaxPlace + 1, math.MaxInt} {
		d, diags := mdoc.Parse(macro(line, "Bl"), macro(line, "It"), macro(line, "Em", `a\q`), macro(line, "El"), macro(line, "Bd"), macro(line, "Bd", "-literal"), api.Row{Line: line, Text: "b"})
		n := min(max(line, 0), api.MaxPlace)
		if !tree.Same(d.Kids, nodes(list(n, tag(n, paraOf(n, i("a")))), display(n, verb(n, row("b"))))) {
			t.Error(line, d)
		}
		if !slices.Equal(diags, told(at(api.BadArgs, line), in(api.BadEscape, line, 2), at(api.NotClosed, line), at(api.NotClosed, line), at(api.NoTitle, 0))) {
			t.Error(line, diags)
		}
	}
}

// No rows, and rows that lines.Read never makes.
func TestOddRows(t *testing.T) {
	if d, diags := mdoc.Parse(); len(d.Kids) > 0 || d.Name != "" || !slices.Equal(diags, told(at(api.NoTitle, 0))) {
		t.Error(d, diags)
	}
	d, diags := mdoc.Parse(api.Row{Line: 1, Macro: "Dt", Text: "a"}, api.Row{Line: 2, Args: []string{"b"}, Text: ".c\n"}, macro(3, "\x00"), macro(4, "Em", "\n"), macro(5, " "), api.Row{Line: 6, Macro: "No", Text: "d"})
	want := nodes(paraOf(2, row(".c\ufffd "), i("\ufffd")))
	if !tree.Same(d.Kids, want) || !slices.Equal(diags, told(in(api.BadByte, 2, 3), at(api.BadMacro, 3), in(api.BadByte, 4, 1), at(api.BadMacro, 5))) {
		t.Error(d, diags)
	}
	many := slices.Repeat([]string{"a"}, 3*api.MaxArgs)
	d, diags = mdoc.Parse(macro(1, "Dt", many...), macro(2, "Sh", many...), macro(3, "Bl", "-tag"), macro(4, "It", many...), macro(5, "Op", many...), macro(6, "El"))
	if len(diags) != 0 || tree.Count(d.Kids...) != 4 || len(tree.Leaves(d.Kids...)) != 9*api.MaxArgs+2 {
		t.Error(d, diags)
	}
}

// Each call begins anew.
func TestNothingGoesOn(t *testing.T) {
	mdoc.Read(".Dt a b\n.Dd c\n.Os d\n.Nm e\n.Bl -enum\n.It\nf")
	mdoc.Read(".Bd -literal\na")
	for range 2 {
		d, diags := mdoc.Read("b\n.Nm\n.It\n.El\n.Ed")
		if !tree.Same(d.Kids, nodes(para(1, "b"))) || d.Name+d.Part+d.Date+d.Source != "" || !slices.Equal(diags, told(at(api.NotHere, 3), at(api.NotOpen, 4), at(api.NotOpen, 5), at(api.NoTitle, 0))) {
			t.Error(d, diags)
		}
	}
}
