package man_test

import (
	"math"
	"slices"
	"strconv"
	"strings"
	"testing"

	"flong/api"
	"flong/cells"
	"flong/lines"
	"flong/man"
	"flong/tree"
)

const (
	bold  = api.Bold
	slant = api.Slant
)

// row is the runes of s, set plain.
func row(s string) []api.Glyph {
	return cells.Of(s, 0)
}

// rows is a row of each text.
func rows(texts ...string) [][]api.Glyph {
	var out [][]api.Glyph
	for _, s := range texts {
		out = append(out, row(s))
	}
	return out
}

// seq is rows of glyphs, one behind the other.
func seq(l ...[]api.Glyph) []api.Glyph {
	return slices.Concat(l...)
}

func section(line int, s string, kids ...api.Node) api.Node {
	return api.Node{Kind: api.Section, Line: line, Text: row(s), Kids: kids}
}

func sub(line int, s string, kids ...api.Node) api.Node {
	return api.Node{Kind: api.Sub, Line: line, Text: row(s), Kids: kids}
}

func para(line int, s string) api.Node {
	return paraOf(line, row(s))
}

func paraOf(line int, l ...[]api.Glyph) api.Node {
	return api.Node{Kind: api.Para, Line: line, Text: seq(l...)}
}

func tag(line int, n int, s string, kids ...api.Node) api.Node {
	return api.Node{Kind: api.Tag, Line: line, N: n, Text: row(s), Kids: kids}
}

func indent(line int, n int, kids ...api.Node) api.Node {
	return api.Node{Kind: api.Indent, Line: line, N: n, Kids: kids}
}

func verb(line int, l ...[]api.Glyph) api.Node {
	return api.Node{Kind: api.Verb, Line: line, Rows: l}
}

// grid is a table, a row of cells for each of l.
func grid(line int, cols string, l ...[][]api.Glyph) api.Node {
	t := api.Table{Cols: cols}
	for _, x := range l {
		t.Rows = append(t.Rows, api.TableRow{Cells: x})
	}
	return api.Node{Kind: api.Grid, Line: line, Grid: t}
}

func nodes(l ...api.Node) []api.Node {
	return l
}

// at is what is wrong with a line, wherever in it that is.
func at(kind int, line int) api.Diag {
	return api.Diag{Kind: kind, Line: line}
}

func in(kind int, line int, col int) api.Diag {
	return api.Diag{Kind: kind, Line: line, Col: col}
}

func told(l ...api.Diag) []api.Diag {
	return l
}

func macro(line int, name string, args ...string) api.Row {
	return api.Row{Line: line, Macro: name, Args: args}
}

// titled is the rows of a text, behind a title that is none of its lines.
func titled(s string) []api.Row {
	l, _ := lines.Read(s)
	return append([]api.Row{macro(0, "TH", "x")}, l...)
}

type page struct {
	what  string
	s     string
	want  []api.Node
	diags []api.Diag
}

// tells holds what titled pages tell against what they should.
func tells(t *testing.T, pages ...page) {
	t.Helper()
	for _, p := range pages {
		d, diags := man.Parse(titled(p.s)...)
		if !tree.Same(d.Kids, p.want) {
			t.Errorf("%s: %q: %v, want %v", p.what, p.s, d.Kids, p.want)
		}
		if !slices.Equal(diags, p.diags) {
			t.Errorf("%s: %q: %v, want %v", p.what, p.s, diags, p.diags)
		}
	}
}

func TestNumber(t *testing.T) {
	for _, c := range []struct {
		s  string
		n  int
		ok bool
	}{
		{"0", 0, true},
		{"7", 7, true},
		{"4n", 4, true},
		{"0n", 0, true},
		{"007", 7, true},
		{"000007", 7, true},
		{"000007n", 7, true},
		{"199", 199, true},
		{"200", 200, true},
		{"201", 200, true},
		{"201n", 200, true},
		{"999999", 200, true},
		{"999999n", 200, true},
		{"", 0, false},
		{"n", 0, false},
		{"nn", 0, false},
		{"4nn", 0, false},
		{"n4", 0, false},
		{"0000007", 0, false},
		{"0000000", 0, false},
		{"1000000", 0, false},
		{"1000000n", 0, false},
		{"18446744073709551616", 0, false},
		{strings.Repeat("9", 100), 0, false},
		{"-1", 0, false},
		{"+1", 0, false},
		{" 1", 0, false},
		{"1 ", 0, false},
		{"1 n", 0, false},
		{"1N", 0, false},
		{"4m", 0, false},
		{"4.5", 0, false},
		{"1_0", 0, false},
		{"0x1", 0, false},
		{"1a", 0, false},
		{"a", 0, false},
		{"\u0664", 0, false},
		{"\uff14", 0, false},
		{"1\x00", 0, false},
		{"\xff", 0, false},
		{`\`, 0, false},
	} {
		for _, or := range []int{0, 7, -1, 1000, math.MinInt, math.MaxInt} {
			want := c.n
			if !c.ok {
				want = or
			}
			if n, ok := man.Number(c.s, or); n != want || ok != c.ok {
				t.Errorf("Number of %+q, %d: %d %v", c.s, or, n, ok)
			}
		}
	}
}

func TestInline(t *testing.T) {
	for _, c := range []struct {
		x     api.Row
		want  []api.Glyph
		diags []api.Diag
	}{
		{api.Row{Line: 3}, nil, nil},
		{api.Row{Line: 3, Text: " a  b"}, row(" a  b"), nil},
		{api.Row{Line: 3, Text: `a\fBb\fIc\fPd`}, seq(row("a"), cells.Of("b", bold), cells.Of("c", slant), cells.Of("d", bold)), nil},
		{api.Row{Line: 3, Text: `\qa\(zz`}, row("a"), told(in(api.BadEscape, 3, 1), in(api.BadName, 3, 4))},
		{api.Row{Line: 3, Text: ".B a"}, row(".B a"), nil},
		{macro(4, "B", "a", "b c"), seq(cells.Of("a", bold), row(" "), cells.Of("b", bold), row(" "), cells.Of("c", bold)), nil},
		{macro(4, "I", "a", `b\fRc`), seq(cells.Of("a", slant), row(" "), cells.Of("b", slant), row("c")), nil},
		{macro(4, "B", "a", "", "b"), seq(cells.Of("a", bold), row(" "), cells.Of("b", bold)), nil},
		{macro(4, "BI", "a", "b", "c"), seq(cells.Of("a", bold), cells.Of("b", slant), cells.Of("c", bold)), nil},
		{macro(4, "BR", "a", "b", "c"), seq(cells.Of("a", bold), row("b"), cells.Of("c", bold)), nil},
		{macro(4, "IB", "a", "b", "c"), seq(cells.Of("a", slant), cells.Of("b", bold), cells.Of("c", slant)), nil},
		{macro(4, "IR", "a", "b", "c"), seq(cells.Of("a", slant), row("b"), cells.Of("c", slant)), nil},
		{macro(4, "RB", "a", "b", "c"), seq(row("a"), cells.Of("b", bold), row("c")), nil},
		{macro(4, "RI", "a", "b", "c"), seq(row("a"), cells.Of("b", slant), row("c")), nil},
		{macro(4, "BR", "a", "", `b\fPc`), seq(cells.Of("a", bold), cells.Of("bc", bold)), nil},
		{macro(5, "B", `a\q`, "b\x01"), seq(cells.Of("a", bold), row(" "), cells.Of("b\ufffd", bold)), told(in(api.BadEscape, 5, 2), in(api.BadByte, 5, 2))},
		{macro(5, "RI", `a\q`, `\[b]c`), seq(row("a"), cells.Of("c", slant)), told(in(api.BadEscape, 5, 2), in(api.BadName, 5, 1))},
		{macro(-5, "IB", `\`), nil, told(in(api.BadEscape, -5, 1))},
		{macro(math.MaxInt, "I", `\`), nil, told(in(api.BadEscape, math.MaxInt, 1))},
		{macro(6, "B"), nil, nil},
		{macro(6, "I", ""), nil, nil},
		{macro(6, "RI", "", ""), nil, nil},
		{api.Row{Line: 7, Macro: "B", Args: []string{"a"}, Text: "b"}, cells.Of("a", bold), nil},
		{api.Row{Line: 7, Args: []string{"a"}, Text: "b"}, row("b"), nil},
	} {
		if l, diags, ok := man.Inline(c.x); !ok || !slices.Equal(l, c.want) || !slices.Equal(diags, c.diags) {
			t.Errorf("Inline of %v: %v %v %v", c.x, l, diags, ok)
		}
	}
	for _, name := range []string{"R", "BB", "II", "RR", "b", "bi", "BIR", "BI ", " B", "SB", "SM", "TH", "SH", "PP", "TP", "EX", "EE", "TS", "x", "\x00", "\xff", "."} {
		if l, diags, ok := man.Inline(api.Row{Line: 1, Macro: name, Args: []string{`a\q`}, Text: "b"}); ok || l != nil || diags != nil {
			t.Errorf("Inline of %q: %v %v %v", name, l, diags, ok)
		}
	}
}

func TestExample(t *testing.T) {
	d, diags := man.Read(".SH A\nb\n")
	if !tree.Same(d.Kids, nodes(section(1, "A", para(2, "b")))) || !slices.Equal(diags, told(at(api.NoTitle, 0))) {
		t.Error(d, diags)
	}
}

func TestTitle(t *testing.T) {
	for _, c := range []struct {
		s                        string
		name, part, date, source string
		diags                    []api.Diag
	}{
		{"", "", "", "", "", told(at(api.NoTitle, 0))},
		{".TH", "", "", "", "", nil},
		{".TH a", "a", "", "", "", nil},
		{".TH a 1 b", "a", "1", "b", "", nil},
		{".TH a 1 b c d e", "a", "1", "b", "c", nil},
		{`.TH "a b" "" "c ""d"""`, "a b", "", `c "d"`, "", nil},
		{`.TH a\qb \fBc`, `a\qb`, `\fBc`, "", "", nil},
		{"a\n.SH B\n.TP\nc\n.TH d", "d", "", "", "", nil},
		{".TH a 1\n.TH b 2 c d", "a", "1", "", "", told(at(api.NotHere, 2))},
		{".TH\n.TH b\n.TH c", "", "", "", "", told(at(api.NotHere, 2), at(api.NotHere, 3))},
		{".EX\n.TH a\n.EE", "", "", "", "", told(at(api.NotHere, 2), at(api.NoTitle, 0))},
		{".EX\n.TH a\n.EE\n.TH b", "b", "", "", "", told(at(api.NotHere, 2))},
		{".TS\n.TH a\nl.\n.TE", "", "", "", "", told(at(api.NotHere, 2), at(api.NoTitle, 0))},
		{".TP\n.TH a", "a", "", "", "", told(at(api.BadArgs, 1))},
		{".Th a", "", "", "", "", told(at(api.BadMacro, 1), at(api.NoTitle, 0))},
	} {
		d, diags := man.Read(c.s)
		if d.Name != c.name || d.Part != c.part || d.Date != c.date || d.Source != c.source {
			t.Errorf("%q: %q %q %q %q", c.s, d.Name, d.Part, d.Date, d.Source)
		}
		if !slices.Equal(diags, c.diags) {
			t.Errorf("%q: %v, want %v", c.s, diags, c.diags)
		}
	}
	// A title stands beside the text, wherever it comes.
	d, diags := man.Read("a\n.TH x\nb\n.TH y\nc")
	if !tree.Same(d.Kids, nodes(para(1, "a b c"))) || !slices.Equal(diags, told(at(api.NotHere, 4))) {
		t.Error(d, diags)
	}
}

func TestText(t *testing.T) {
	tells(t,
		page{"nothing", "", nil, nil},
		page{"text", "a\nb  c\n d ", nodes(para(1, "a b c d")), nil},
		page{"a line of nothing parts", "a\n\nb\n\n\nc", nodes(para(1, "a"), para(3, "b"), para(6, "c")), nil},
		page{"so does one of blanks", "a\n  \nb\n\t\nc", nodes(para(1, "a"), para(3, "b"), para(5, "c")), nil},
		page{"and one of which nothing is left", "a\n\\&\nb\n\\fB \\[u0020]\nc", nodes(para(1, "a"), para(3, "b"), para(5, "c")), nil},
		page{"a hard blank is text", "a\n\\ \nb", nodes(para(1, "a \u00a0 b")), nil},
		page{"each line is set anew", "a\\fBb\nc", nodes(paraOf(1, row("a"), cells.Of("b", bold), row(" c"))), nil},
		page{"macros that set", "a\n.B b\n.I c d\n.BR e f\ng", nodes(paraOf(1, row("a "), cells.Of("b", bold), row(" "), cells.Of("c", slant), row(" "), cells.Of("d", slant), row(" "), cells.Of("e", bold), row("f g"))), nil},
		page{"a macro begins a paragraph", "\n.B a", nodes(paraOf(2, cells.Of("a", bold))), nil},
		page{"a macro of nothing ends none", "a\n.B \"\"\nb\n.RI \" \"\nc", nodes(para(1, "a b c")), nil},
		page{"and begins one", ".I \"\"\na", nodes(para(1, "a")), nil},
		page{"a macro without arguments", "a\n.B\nb\n.RI\nc\n.IB", nodes(para(1, "a b c")), told(at(api.BadArgs, 2), at(api.BadArgs, 4), at(api.BadArgs, 6))},
		page{"and it begins none", ".B\na", nodes(para(2, "a")), told(at(api.BadArgs, 1))},
		page{"what is wrong in it", "a\\q\n.B b \\(zz\n\x01\n\\q", nodes(paraOf(1, row("a "), cells.Of("b", bold), row(" \ufffd"))), told(in(api.BadEscape, 1, 2), in(api.BadName, 2, 1), in(api.BadByte, 3, 1), in(api.BadEscape, 4, 1))},
		page{"no macro", "a\n.zz\nb\n.pp c\n.R d", nodes(para(1, "a b")), told(at(api.BadMacro, 2), at(api.BadMacro, 4), at(api.BadMacro, 5))},
	)
}

func TestHeadings(t *testing.T) {
	tells(t,
		page{"sections", ".SH A\nb\n.SH \"C  d\" e\nf", nodes(section(1, "A", para(2, "b")), section(3, "C d e", para(4, "f"))), nil},
		page{"text ahead", "a\n.SH B", nodes(para(1, "a"), section(2, "B")), nil},
		page{"subs", ".SH A\nb\n.SS c\nd\n.SS e\n.SH F\n.SS g", nodes(section(1, "A", para(2, "b"), sub(3, "c", para(4, "d")), sub(5, "e")), section(6, "F", sub(7, "g"))), nil},
		page{"a sub in no section", "a\n.SS b\nc\n.SH D", nodes(para(1, "a"), para(2, "b"), para(3, "c"), section(4, "D")), nil},
		page{"a section shuts all", ".SH A\n.SS b\n.RS\n.TP\nc\n.RS\n.IP d\ne\n.SH F\ng", nodes(section(1, "A", sub(2, "b", indent(3, 7, tag(4, 7, "c", indent(6, 7, tag(7, 7, "d", para(8, "e"))))))), section(9, "F", para(10, "g"))), nil},
		page{"a sub shuts all but a section", ".SH A\n.SS b\n.RS\n.TP\nc\n.RS\n.IP d\ne\n.SS f\ng\n.RS\nh\n.SS i", nodes(section(1, "A", sub(2, "b", indent(3, 7, tag(4, 7, "c", indent(6, 7, tag(7, 7, "d", para(8, "e")))))), sub(9, "f", para(10, "g"), indent(11, 7, para(12, "h"))), sub(13, "i"))), nil},
		page{"and what is in no section", ".RS\n.IP a\n.SS b\nc\n.RE", nodes(indent(1, 7, tag(2, 7, "a")), para(3, "b"), para(4, "c")), told(at(api.NotOpen, 5))},
		page{"each argument is set plain", ".SH \\fBa b\n.SS \\fIc", nodes(api.Node{Kind: api.Section, Line: 1, Text: seq(cells.Of("a", bold), row(" b")), Kids: nodes(api.Node{Kind: api.Sub, Line: 2, Text: cells.Of("c", slant)})}), nil},
		page{"what is wrong in them", ".SH a\\q \\(zz\n.SS \\q\nb", nodes(section(1, "a", para(3, "b"))), told(in(api.BadEscape, 1, 2), in(api.BadName, 1, 1), in(api.BadEscape, 2, 1))},
		page{"one of nothing does not wait", ".SH \"\"\na\n.SS \" \"\nb", nodes(para(2, "a"), para(4, "b")), nil},
		page{"one waits", ".SH\nA\nb\n.SS\n.B c\nd", nodes(section(1, "A", para(3, "b"), api.Node{Kind: api.Sub, Line: 4, Text: cells.Of("c", bold), Kids: nodes(para(6, "d"))})), nil},
		page{"one that waits shuts at once", ".SH A\n.RS\nb\n.SS\n.PP\nc\n.RS\nd\n.SH\n.PP\ne", nodes(section(1, "A", indent(2, 7, para(3, "b")), para(6, "c"), indent(7, 7, para(8, "d"))), para(11, "e")), told(at(api.BadArgs, 4), at(api.BadArgs, 9))},
	)
}

func TestWaits(t *testing.T) {
	tells(t,
		page{"for a text", ".TP\n a  b \nc", nodes(tag(1, 7, "a b", para(3, "c"))), nil},
		page{"for a macro", ".TP\n.BI a b\nc", nodes(api.Node{Kind: api.Tag, Line: 1, N: 7, Text: seq(cells.Of("a", bold), cells.Of("b", slant)), Kids: nodes(para(3, "c"))}), nil},
		page{"for a line of nothing, too", ".TP\n\na\n.SH\n  \nb", nodes(tag(1, 7, "", para(3, "a")), para(6, "b")), nil},
		page{"for a macro of nothing, too", ".TP\n.B \"\"\na", nodes(tag(1, 7, "", para(3, "a"))), nil},
		page{"not for one without arguments", ".TP\n.B\n.RI\na\nb", nodes(tag(1, 7, "a", para(5, "b"))), told(at(api.BadArgs, 2), at(api.BadArgs, 3))},
		page{"what is wrong in the line", ".TP\na\\q\n.SH\n.B \\(zz b", nodes(tag(1, 7, "a"), api.Node{Kind: api.Section, Line: 3, Text: cells.Of("b", bold)}), told(in(api.BadEscape, 2, 2), in(api.BadName, 4, 1))},
		page{"no more behind another macro", "a\n.TP\n.PP\nb", nodes(para(1, "a"), para(4, "b")), told(at(api.BadArgs, 2))},
		page{"nor behind one that is none", ".TP\n.zz\na", nodes(para(3, "a")), told(at(api.BadArgs, 1), at(api.BadMacro, 2))},
		page{"nor behind one that may not be here", ".TP\n.TH y\na\n.SH\n.EE\nb\n.SH\n.TE\n.SH\n.RE\n.SS\n.fi", nodes(para(3, "a"), para(6, "b")), told(at(api.BadArgs, 1), at(api.NotHere, 2), at(api.BadArgs, 4), at(api.NotOpen, 5), at(api.BadArgs, 7), at(api.NotOpen, 8), at(api.BadArgs, 9), at(api.NotOpen, 10), at(api.BadArgs, 11), at(api.NotOpen, 12))},
		page{"one behind the other", ".TP\n.TP 3\n.SS\n.SH\nA", nodes(section(4, "A")), told(at(api.BadArgs, 1), at(api.BadArgs, 2), at(api.BadArgs, 3))},
		page{"of one that waits and is wrong both are told", ".TP x\n.TP y\na", nodes(tag(2, 7, "a")), told(at(api.BadArgs, 1), at(api.BadArgs, 1), at(api.BadArgs, 2))},
		page{"not within EX", ".TP\n.EX\na\n.EE\nb", nodes(verb(2, row("a")), para(5, "b")), told(at(api.BadArgs, 1))},
		page{"not within TS", ".TP\n.TS\nl.\na\n.TE\nb", nodes(grid(2, "l", rows("a")), para(6, "b")), told(at(api.BadArgs, 1))},
		page{"for no rows", "a\n.TP", nodes(para(1, "a")), told(at(api.BadArgs, 2))},
		page{"for no rows but one without arguments", ".SH\n.B", nil, told(at(api.BadArgs, 2), at(api.BadArgs, 1))},
	)
}

func TestTags(t *testing.T) {
	tells(t,
		page{"paragraphs", "a\n.PP\nb\n.P\nc\n.LP\nd\n.PP x y\n.PP\ne", nodes(para(1, "a"), para(3, "b"), para(5, "c"), para(7, "d"), para(10, "e")), nil},
		page{"they shut a tag", ".IP a\nb\n.PP\nc\n.IP d\n.P\ne\n.IP f\n.LP\ng", nodes(tag(1, 7, "a", para(2, "b")), para(4, "c"), tag(5, 7, "d"), para(7, "e"), tag(8, 7, "f"), para(10, "g")), nil},
		page{"and nothing else", ".SH A\n.SS b\n.IP c\n.RS\nd\n.PP\ne\n.RE\nf\n.PP\ng", nodes(section(1, "A", sub(2, "b", tag(3, 7, "c", indent(4, 7, para(5, "d"), para(7, "e")), para(9, "f")), para(11, "g")))), nil},
		page{"a tag shuts a tag", ".TP 2\na\nb\n.TP\nc\n.IP d 3\ne\n.TP 9n\nf", nodes(tag(1, 2, "a", para(3, "b")), tag(4, 7, "c"), tag(6, 3, "d", para(7, "e")), tag(8, 9, "f")), nil},
		page{"and nothing else", ".IP a\n.RS\n.TP\nb\n.IP c\nd\n.RE\n.IP e", nodes(tag(1, 7, "a", indent(2, 7, tag(3, 7, "b"), tag(5, 7, "c", para(6, "d")))), tag(8, 7, "e")), nil},
		page{"a tag shuts one at once", ".IP a\nb\n.TP\n.SS c", nodes(tag(1, 7, "a", para(2, "b")), para(4, "c")), told(at(api.BadArgs, 3))},
		page{"of nothing", ".IP\na\n.IP \"\" 3\nb\n.IP \" \" 4", nodes(tag(1, 7, "", para(2, "a")), tag(3, 3, "", para(4, "b")), tag(5, 4, "")), nil},
		page{"of one argument alone", ".IP a 4 b c\n.TP 3 a b\nd", nodes(tag(1, 4, "a"), tag(2, 3, "d")), nil},
		page{"of more than one word", ".IP \"a  \\fBb\" 4", nodes(api.Node{Kind: api.Tag, Line: 1, N: 4, Text: seq(row("a "), cells.Of("b", bold))}), nil},
		page{"numbers", ".IP a 0\n.IP b 999\n.TP 200n\nc\n.TP 000000\nd", nodes(tag(1, 0, "a"), tag(2, 200, "b"), tag(3, 200, "c"), tag(5, 0, "d")), nil},
		page{"no numbers", ".IP a b\n.IP c \"\"\n.IP d -1\n.TP e\nf\n.TP \"\"\ng\n.TP 1000000\nh", nodes(tag(1, 7, "a"), tag(2, 7, "c"), tag(3, 7, "d"), tag(4, 7, "f"), tag(6, 7, "g"), tag(8, 7, "h")), told(at(api.BadArgs, 1), at(api.BadArgs, 2), at(api.BadArgs, 3), at(api.BadArgs, 4), at(api.BadArgs, 6), at(api.BadArgs, 8))},
		page{"what is wrong with the text, and with the number", ".IP a\\q x\n.IP \\q \\q", nodes(tag(1, 7, "a"), tag(2, 7, "")), told(in(api.BadEscape, 1, 2), at(api.BadArgs, 1), in(api.BadEscape, 2, 1), at(api.BadArgs, 2))},
		page{"what is wrong with a number is told ahead of the line", ".TP x\n\\qa", nodes(tag(1, 7, "a")), told(at(api.BadArgs, 1), in(api.BadEscape, 2, 1))},
	)
}

func TestIndents(t *testing.T) {
	tells(t,
		page{"one within the other", "a\n.RS\nb\n.RS 3\nc\n.RE\nd\n.RE\ne", nodes(para(1, "a"), indent(2, 7, para(3, "b"), indent(4, 3, para(5, "c")), para(7, "d")), para(9, "e")), nil},
		page{"the innermost is closed, with what is in it", ".RS\n.RS 1\n.IP a\nb\n.RE\nc\n.RE\nd", nodes(indent(1, 7, indent(2, 1, tag(3, 7, "a", para(4, "b"))), para(6, "c")), para(8, "d")), nil},
		page{"a tag is not shut", ".IP a\n.RS 2\nb\n.RE\nc", nodes(tag(1, 7, "a", indent(2, 2, para(3, "b")), para(5, "c"))), nil},
		page{"in a section", ".SH A\n.RS\n.IP b\n.RE\nc\n.SS d\n.RS\n.RE\ne", nodes(section(1, "A", indent(2, 7, tag(3, 7, "b")), para(5, "c"), sub(6, "d", para(9, "e")))), nil},
		page{"none is open", "a\n.RE\nb\n.RS\nc\n.RE\n.RE 2\nd\n.SH E\n.RE", nodes(para(1, "a"), para(3, "b"), indent(4, 7, para(5, "c")), para(8, "d"), section(9, "E")), told(at(api.NotOpen, 2), at(api.NotOpen, 7), at(api.NotOpen, 10))},
		page{"numbers", ".RS 0\na\n.RE\n.RS 201\nb\n.RE\n.RS 4n 5\nc", nodes(indent(1, 0, para(2, "a")), indent(4, 200, para(5, "b")), indent(7, 4, para(8, "c"))), nil},
		page{"no numbers", ".RS x\na\n.RE\n.RS \"\"\nb\n.RS -2 3\nc", nodes(indent(1, 7, para(2, "a")), indent(4, 7, para(5, "b"), indent(6, 7, para(7, "c")))), told(at(api.BadArgs, 1), at(api.BadArgs, 4), at(api.BadArgs, 6))},
		page{"of nothing", ".RS\n.RE\na\n.RS", nodes(para(3, "a")), nil},
	)
}

func TestVerbs(t *testing.T) {
	tells(t,
		page{"rows as they are", "a\n.EX\n b  c \n\n\td\n.EE\ne", nodes(para(1, "a"), verb(2, rows(" b  c ", "", " d")...), para(7, "e")), nil},
		page{"by the other names", ".nf\na\n.fi\n.nf\nb\n.EE\n.EX\nc\n.fi", nodes(verb(1, row("a")), verb(4, row("b")), verb(7, row("c"))), nil},
		page{"arguments count for nothing", ".EX x y\na\n.EE z\nb", nodes(verb(1, row("a")), para(4, "b")), nil},
		page{"rows that are set", ".EX\n.B a b\n.RI c d\n\\fIe\nf\n.B \"\"\n.EE", nodes(verb(1, seq(cells.Of("a", bold), row(" "), cells.Of("b", bold)), seq(row("c"), cells.Of("d", slant)), cells.Of("e", slant), row("f"), nil)), nil},
		page{"what is wrong in them", ".EX\na\\q\n.B\n.I \\(zz\n.EE", nodes(verb(1, row("a"), nil)), told(in(api.BadEscape, 2, 2), at(api.BadArgs, 3), in(api.BadName, 4, 1))},
		page{"what may not be here", ".EX\na\n.PP\n.SH b\n.EX\n.nf\n.TS\n.TE\n.RS\n.RE\n.IP c\n.TP\n.zz\nd\n.fi\ne", nodes(verb(1, rows("a", "d")...), para(16, "e")), told(at(api.NotHere, 3), at(api.NotHere, 4), at(api.NotHere, 5), at(api.NotHere, 6), at(api.NotHere, 7), at(api.NotHere, 8), at(api.NotHere, 9), at(api.NotHere, 10), at(api.NotHere, 11), at(api.NotHere, 12), at(api.NotHere, 13))},
		page{"within others", ".SH A\n.RS\n.IP b\n.EX\nc\n.EE\nd\n.RE\ne", nodes(section(1, "A", indent(2, 7, tag(3, 7, "b", verb(4, row("c")), para(7, "d"))), para(9, "e"))), nil},
		page{"of nothing", "a\n.EX\n.EE\nb\n.nf\n.zz\n.fi", nodes(para(1, "a"), para(4, "b")), told(at(api.NotHere, 6))},
		page{"not open", "a\n.EE\nb\n.fi\n.EX\nc\n.EE\n.EE\n.fi", nodes(para(1, "a b"), verb(5, row("c"))), told(at(api.NotOpen, 2), at(api.NotOpen, 4), at(api.NotOpen, 8), at(api.NotOpen, 9))},
		page{"not closed", ".RS\na\n.EX\nb\n.zz\n\nc", nodes(indent(1, 7, para(2, "a"), verb(3, rows("b", "", "c")...))), told(at(api.NotHere, 5), at(api.NotClosed, 3))},
		page{"not closed, of nothing", "a\n.nf", nodes(para(1, "a")), told(at(api.NotClosed, 2))},
	)
}

func TestGrids(t *testing.T) {
	boxed := grid(1, "l", rows("a"))
	boxed.Grid.Box = true
	tells(t,
		page{"a table", "a\n.TS\nl r.\nb\tc  d\n\\fBe\n.TE\nf", nodes(para(1, "a"), grid(2, "lr", rows("b", "c d"), [][]api.Glyph{cells.Of("e", bold), nil}), para(7, "f")), nil},
		page{"in a box", ".TS\nbox;\nl.\na\n.TE", nodes(boxed), nil},
		page{"arguments count for nothing", ".TS H\nl.\na\n.TE x\nb", nodes(grid(1, "l", rows("a")), para(5, "b")), nil},
		page{"a line of nothing is a row", ".TS\nl.\n\na\n.TE", nodes(grid(1, "l", rows(""), rows("a"))), nil},
		page{"a cell that goes on", ".TS\nl r.\na\tT{\nb\n\nc\nT}\n.TE", nodes(grid(1, "lr", rows("a", "b c"))), nil},
		page{"what is wrong in it is told behind it", ".TS\nx.\n.B a\nb\\q\tc\n.B\n.TE\n.EE", nodes(grid(1, "l", rows("b"))), told(at(api.NotHere, 3), at(api.NotHere, 5), at(api.BadTable, 2), in(api.BadEscape, 3, 2), at(api.TooMany, 3), at(api.NotOpen, 7))},
		page{"what may not be here", ".TS\nl.\n.TS\n.EX\n.EE\n.fi\n.SH a\n.PP\n.TP\n.zz\n.BR c d\nb\n.TE", nodes(grid(1, "l", rows("b"))), told(at(api.NotHere, 3), at(api.NotHere, 4), at(api.NotHere, 5), at(api.NotHere, 6), at(api.NotHere, 7), at(api.NotHere, 8), at(api.NotHere, 9), at(api.NotHere, 10), at(api.NotHere, 11))},
		page{"one behind the other", ".TS\nl.\na\n.TE\n.TS\nr.\nb\n.TE", nodes(grid(1, "l", rows("a")), grid(5, "r", rows("b"))), nil},
		page{"within others", ".SH A\n.RS\n.IP b\n.TS\nl.\nc\n.TE\nd\n.RE\ne", nodes(section(1, "A", indent(2, 7, tag(3, 7, "b", grid(4, "l", rows("c")), para(8, "d"))), para(10, "e"))), nil},
		page{"of nothing", "a\n.TS\nl.\n.TE\nb\n.TS\n.TE", nodes(para(1, "a"), para(5, "b")), told(at(api.NotClosed, 7))},
		page{"not open", "a\n.TE\nb\n.EX\n.TE\n.EE", nodes(para(1, "a b")), told(at(api.NotOpen, 2), at(api.NotHere, 5))},
		page{"not closed", ".RS\na\n.TS\nl.\n.zz\nb\\q", nodes(indent(1, 7, para(2, "a"), grid(3, "l", rows("b")))), told(at(api.NotHere, 5), at(api.NotClosed, 3), in(api.BadEscape, 5, 2))},
		page{"not closed, of nothing", "a\n.TS", nodes(para(1, "a")), told(at(api.NotClosed, 2), at(api.NotClosed, 3))},
	)
}

// deep is a page of n indents, that are lines 1 to n, and some behind.
func deep(n int, s string) string {
	return strings.Repeat(".RS 1\n", n) + s
}

// within is what stands in n indents, that are lines from one on.
func within(from, n int, l ...api.Node) []api.Node {
	for line := from + n - 1; line >= from; line-- {
		l = nodes(indent(line, 1, l...))
	}
	return l
}

func TestDeep(t *testing.T) {
	tells(t,
		page{"a tag that is the last", deep(19, ".IP a\n.TP\nb\n.PP\nc"), within(1, 19, tag(20, 7, "a"), tag(21, 7, "b"), para(24, "c")), nil},
		page{"what was opened and closed counts no more", deep(19, strings.Repeat(".RS\n.RE\n", 5)+".IP a"), within(1, 19, tag(30, 7, "a")), nil},
		page{"an indent that is too deep", deep(20, ".RS 2\na\n.RE\nb\n.IP c"), within(1, 19, para(24, "b"), tag(25, 7, "c")), told(at(api.TooDeep, 21))},
		page{"an item that is too deep", deep(20, ".IP a\\q x\n.RE\nb"), within(1, 19, para(23, "b")), told(in(api.BadEscape, 21, 2), at(api.BadArgs, 21), at(api.TooDeep, 21))},
		page{"a tag that is too deep", deep(20, ".TP x\na\\q\n.RE\nb"), within(1, 19, para(24, "b")), told(at(api.BadArgs, 21), in(api.BadEscape, 22, 2), at(api.TooDeep, 21))},
		page{"a tag that waits in vain", deep(20, ".TP\n.RE\nb"), within(1, 19, para(23, "b")), told(at(api.BadArgs, 21))},
		page{"an indent that is wrong", deep(20, ".RS x\n.RE\na"), within(1, 19, para(23, "a")), told(at(api.BadArgs, 21), at(api.TooDeep, 21))},
		page{"a heading never is", deep(20, ".SS a\n") + deep(20, ".SH\nb\nc"), []api.Node{para(21, "a"), section(42, "b", para(44, "c"))}, told(at(api.TooDeep, 41))},
	)
	// Sections and subs count, too.
	s := ".SH A\n.SS b\n" + deep(18, ".IP c\n.RE\n.TP\nd\n.RS")
	tells(t, page{"with headings", s, nodes(section(1, "A", sub(2, "b", within(3, 17, tag(23, 7, "d"))...))), told(at(api.TooDeep, 21), at(api.TooDeep, 25))})
	s = ".SH\nA\n.SS\nb\n" + deep(17, ".IP c")
	tells(t, page{"with headings that waited", s, nodes(section(1, "A", sub(3, "b", within(5, 17, tag(22, 7, "c"))...))), nil})
}

// What is wrong with the lines is told first.
func TestRead(t *testing.T) {
	d, diags := man.Read(".TH a 1\n.zz\n.SH \"b\n.IP" + strings.Repeat(" 1", api.MaxArgs+1) + "\nc\\\nd\\\" e\n.\\\" f\n.B g")
	want := nodes(section(3, "b", tag(4, 1, "1", paraOf(5, row("cd "), cells.Of("g", bold)))))
	if !tree.Same(d.Kids, want) || d.Name != "a" || d.Part != "1" {
		t.Error(d)
	}
	if !slices.Equal(diags, told(at(api.BadArgs, 3), at(api.TooMany, 4), at(api.BadMacro, 2))) {
		t.Error(diags)
	}
	d, diags = man.Read("")
	if len(d.Kids) > 0 || !slices.Equal(diags, told(at(api.NoTitle, 0))) {
		t.Error(d, diags)
	}
	if _, diags = man.Read(".TP x\n\\q\n.EX"); !slices.Equal(diags, told(at(api.BadArgs, 1), in(api.BadEscape, 2, 1), at(api.NotClosed, 3), at(api.NoTitle, 0))) {
		t.Error(diags)
	}
}

// Rows may tell any lines: a node's is clipped, what is wrong is told where the row says.
func TestAnyLine(t *testing.T) {
	for _, line := range []int{math.MinInt, -1, 0, 1, api.MaxPlace, api.MaxPlace + 1, math.MaxInt} {
		d, diags := man.Parse(macro(line, "IP", `a\q`, "b"), macro(line, "TP"), macro(line, "TS"), api.Row{Line: line, Text: "l."}, api.Row{Line: line, Text: "c"})
		n := min(max(line, 0), api.MaxPlace)
		if !tree.Same(d.Kids, nodes(tag(n, 7, "a"), grid(n, "l", rows("c")))) {
			t.Error(line, d)
		}
		if !slices.Equal(diags, told(in(api.BadEscape, line, 2), at(api.BadArgs, line), at(api.BadArgs, line), at(api.NotClosed, line), at(api.NoTitle, 0))) {
			t.Error(line, diags)
		}
	}
	man.Parse(macro(math.MaxInt, "TS"), api.Row{Text: "x"}, api.Row{Text: `\q`})
}

// No rows, and rows that lines.Read never makes.
func TestOddRows(t *testing.T) {
	if d, diags := man.Parse(); len(d.Kids) > 0 || d.Name != "" || !slices.Equal(diags, told(at(api.NoTitle, 0))) {
		t.Error(d, diags)
	}
	d, diags := man.Parse(api.Row{Line: 1, Macro: "TH", Text: "a"}, api.Row{Line: 2, Args: []string{"b"}, Text: ".c\n"}, macro(3, "\x00"), macro(4, "B", "\n"), macro(5, " "))
	want := nodes(paraOf(2, row(".c\ufffd "), cells.Of("\ufffd", bold)))
	if !tree.Same(d.Kids, want) || !slices.Equal(diags, told(in(api.BadByte, 2, 3), at(api.BadMacro, 3), in(api.BadByte, 4, 1), at(api.BadMacro, 5))) {
		t.Error(d, diags)
	}
	many := slices.Repeat([]string{"a"}, 3*api.MaxArgs)
	d, diags = man.Parse(macro(1, "TH", many...), macro(2, "SH", many...), macro(3, "IP", many...), macro(4, "B", many...))
	if len(diags) != 1 || tree.Count(d.Kids...) != 3 || len(tree.Leaves(d.Kids...)) != 6*api.MaxArgs+1 {
		t.Error(d, diags)
	}
}

// Each call begins anew.
func TestNothingGoesOn(t *testing.T) {
	man.Read(".TH a b c d\n.RS\n.IP x\ny\n.TP")
	man.Read(".EX\na")
	man.Read(".TS\na")
	for range 2 {
		d, diags := man.Read("b\n.RE\n.EE\n.TE")
		if !tree.Same(d.Kids, nodes(para(1, "b"))) || d.Name != "" || !slices.Equal(diags, told(at(api.NotOpen, 2), at(api.NotOpen, 3), at(api.NotOpen, 4), at(api.NoTitle, 0))) {
			t.Error(d, diags)
		}
	}
}

// Every number that has digits enough is one, and no other text.
func TestNumbers(t *testing.T) {
	for i := range 1100000 {
		s := strconv.Itoa(i)
		want, is := min(i, api.MaxStep), i < 1000000
		if !is {
			want = -5
		}
		if n, ok := man.Number(s, -5); n != want || ok != is {
			t.Fatal(s, n, ok)
		}
		if n, ok := man.Number(s+"n", -5); n != want || ok != is {
			t.Fatal(s+"n", n, ok)
		}
	}
}
