package build_test

import (
	"slices"
	"testing"

	"flong/api"
	"flong/build"
	"flong/cells"
	"flong/tree"
)

const (
	plain = 0
	bold  = api.Bold
)

// row is the runes of s, set plain.
func row(s string) []api.Glyph {
	return cells.Of(s, plain)
}

// rows is a row of each text.
func rows(texts ...string) [][]api.Glyph {
	var out [][]api.Glyph
	for _, s := range texts {
		out = append(out, row(s))
	}
	return out
}

func node(kind int, s string, kids ...api.Node) api.Node {
	return api.Node{Kind: kind, Text: row(s), Kids: kids}
}

func section(s string, kids ...api.Node) api.Node {
	return node(api.Section, s, kids...)
}

func sub(s string, kids ...api.Node) api.Node {
	return node(api.Sub, s, kids...)
}

func tag(s string, kids ...api.Node) api.Node {
	return node(api.Tag, s, kids...)
}

func indent(n int, kids ...api.Node) api.Node {
	return api.Node{Kind: api.Indent, N: n, Kids: kids}
}

// para is a paragraph that began at a line.
func para(line int, s string) api.Node {
	x := node(api.Para, s)
	x.Line = line
	return x
}

func verb(texts ...string) api.Node {
	return api.Node{Kind: api.Verb, Rows: rows(texts...)}
}

// grid is a table of one column.
func grid(texts ...string) api.Node {
	t := api.Table{Cols: "l"}
	for _, s := range texts {
		t.Rows = append(t.Rows, api.TableRow{Cells: rows(s)})
	}
	return api.Node{Kind: api.Grid, Grid: t}
}

// told holds what a builder was told against nodes.
func told(t *testing.T, what string, b *build.Builder, want ...api.Node) {
	t.Helper()
	if got := b.Doc().Kids; !tree.Same(got, want) {
		t.Errorf("%s: %v, want %v", what, got, want)
	}
}

// stands holds how many nodes are open, and which of the kinds -1 to 9, against what should be.
func stands(t *testing.T, what string, b *build.Builder, depth int, kinds ...int) {
	t.Helper()
	if n := b.Depth(); n != depth {
		t.Errorf("%s: %d are open, want %d", what, n, depth)
	}
	for kind := -1; kind <= 9; kind++ {
		if got, want := b.Inside(kind), slices.Contains(kinds, kind); got != want {
			t.Errorf("%s: inside of %d is %v", what, kind, got)
		}
	}
}

// closes closes a kind, and holds whether there was one against what should be.
func closes(t *testing.T, what string, b *build.Builder, kind int, want bool) {
	t.Helper()
	if b.Close(kind) != want {
		t.Errorf("%s: Close of %d is %v", what, kind, !want)
	}
}

func TestNew(t *testing.T) {
	b := build.New()
	stands(t, "new", b, 0)
	told(t, "new", b)
	if d := b.Doc(); d.Name != "" || d.Part != "" || d.Date != "" || d.Source != "" {
		t.Error(d)
	}
	closes(t, "new", b, api.Section, false)
	b.Shut(api.Section)
	b.End()
	told(t, "new, ended", b)
}

func TestExample(t *testing.T) {
	b := build.New()
	b.Open(section("x"))
	b.Text(row("a"), 1)
	b.Text(row("b"), 2)
	told(t, "the chapter's example", b, section("x", para(1, "a b")))
}

func TestTitle(t *testing.T) {
	b := build.New()
	titled := func(name, part, date, source string) {
		t.Helper()
		if d := b.Doc(); d.Name != name || d.Part != part || d.Date != date || d.Source != source {
			t.Errorf("%q %q %q %q", d.Name, d.Part, d.Date, d.Source)
		}
	}
	b.Title("a", "b", "c", "d")
	titled("a", "b", "c", "d")
	b.Open(section("s"))
	b.Text(row("e"), 1)
	titled("a", "b", "c", "d")
	b.Title("", " f\x00", "\xff", "\\fBg\n")
	titled("", " f\x00", "\xff", "\\fBg\n")
	b.Text(row("h"), 2)
	told(t, "a title ends nothing", b, section("s", para(1, "e h")))
	b.Title("", "", "", "")
	titled("", "", "", "")
}

func TestText(t *testing.T) {
	type part struct {
		s    string
		line int
	}
	for _, c := range []struct {
		what  string
		parts []part
		want  []api.Node
	}{
		{"one text", []part{{"a b", 3}}, []api.Node{para(3, "a b")}},
		{"the line where it began", []part{{"a", 3}, {"b", 4}, {"c", 2}}, []api.Node{para(3, "a b c")}},
		{"a text of nothing", []part{{"", 3}}, nil},
		{"a text of nothing begins it", []part{{"", 3}, {"a", 4}}, []api.Node{para(3, "a")}},
		{"a text of nothing adds nothing", []part{{"a", 3}, {"", 4}, {"b", 5}, {"", 6}}, []api.Node{para(3, "a b")}},
		{"blanks", []part{{"  ", 3}}, nil},
		{"blanks begin it", []part{{" ", 3}, {"a", 4}}, []api.Node{para(3, "a")}},
		{"blanks are squeezed", []part{{" a ", 3}, {"  ", 4}, {" b  c ", 5}}, []api.Node{para(3, "a b c")}},
		{"a hard blank", []part{{" ", 3}, {"\u00a0", 4}}, []api.Node{para(3, "\u00a0")}},
		{"a glyph of no width", []part{{"\u0301", 3}}, []api.Node{para(3, "\u0301")}},
		{"a control", []part{{"\t", 3}}, []api.Node{para(3, "\t")}},
		{"a line below any", []part{{"a", -1}, {"b", 4}}, []api.Node{para(0, "a b")}},
		{"a line above any", []part{{"a", api.MaxPlace + 1}}, []api.Node{para(api.MaxPlace, "a")}},
	} {
		b := build.New()
		for _, p := range c.parts {
			b.Text(row(p.s), p.line)
		}
		told(t, c.what, b, c.want...)
		b.End()
		told(t, c.what+", ended", b, c.want...)
	}
}

func TestTextStaysSet(t *testing.T) {
	b := build.New()
	b.Text(cells.Of(" a", bold), 1)
	b.Text(cells.Of("b c", bold|api.Slant), 2)
	b.Text(row("d"), 3)
	want := slices.Concat(cells.Of("a", bold), row(" "), cells.Of("b", bold|api.Slant), row(" "), cells.Of("c", bold|api.Slant), row(" d"))
	told(t, "text that is set", b, api.Node{Kind: api.Para, Line: 1, Text: want})
	b = build.New()
	b.Text(cells.Of("  ", bold), 1)
	b.End()
	b.Text(row("a"), 2)
	told(t, "blanks that are set are no text", b, para(2, "a"))
}

func TestEnd(t *testing.T) {
	b := build.New()
	b.End()
	b.Text(row("a"), 1)
	b.End()
	told(t, "at the top", b, para(1, "a"))
	b.End()
	told(t, "ended twice", b, para(1, "a"))
	b.Text(row(" "), 2)
	b.End()
	b.Text(row("b"), 3)
	told(t, "blanks that are ended begin nothing", b, para(1, "a"), para(3, "b"))
	b.Text(row(""), 4)
	b.End()
	b.Text(row(""), 5)
	b.Text(row("c"), 6)
	b.Open(section("S"))
	b.Open(indent(2))
	b.Text(row("d"), 7)
	b.End()
	b.Text(row("e"), 8)
	b.End()
	stands(t, "End closes nothing", b, 2, api.Section, api.Indent)
	told(t, "in the innermost", b, para(1, "a"), para(3, "b"), para(5, "c"), section("S", indent(2, para(7, "d"), para(8, "e"))))
}

func TestAdd(t *testing.T) {
	b := build.New()
	b.Text(row("a"), 1)
	b.Add(verb("  b", "", "c "))
	b.Add(grid("d", "e"))
	b.Text(row("f"), 2)
	b.Add(section("S", para(3, "g"), sub("T", para(4, "h"))))
	stands(t, "Add opens nothing", b, 0)
	b.Text(row("i"), 5)
	first := []api.Node{para(1, "a"), verb("  b", "", "c "), grid("d", "e"), para(2, "f"), section("S", para(3, "g"), sub("T", para(4, "h"))), para(5, "i")}
	told(t, "at the top", b, first...)
	b.Open(indent(3))
	b.Open(tag("t"))
	b.Text(row("j"), 6)
	b.Add(para(7, "k"))
	b.Text(row("l"), 8)
	told(t, "in the innermost", b, append(first, indent(3, tag("t", para(6, "j"), para(7, "k"), para(8, "l"))))...)
}

func TestOpen(t *testing.T) {
	b := build.New()
	b.Text(row("a"), 1)
	b.Open(section("S", para(2, "b"), indent(1, para(3, "c"))))
	stands(t, "kids that it has are not open", b, 1, api.Section)
	told(t, "kids that it has", b, para(1, "a"), section("S", para(2, "b"), indent(1, para(3, "c"))))
	b.Text(row("d"), 4)
	b.Open(sub("T"))
	stands(t, "another one", b, 2, api.Section, api.Sub)
	b.Text(row("e"), 5)
	b.Open(indent(2, para(6, "f")))
	stands(t, "a third one", b, 3, api.Section, api.Sub, api.Indent)
	b.Text(row("g"), 7)
	told(t, "one within the other", b, para(1, "a"),
		section("S", para(2, "b"), indent(1, para(3, "c")), para(4, "d"), sub("T", para(5, "e"), indent(2, para(6, "f"), para(7, "g")))))
}

// Whatever is opened is open, be it such that it can have nothing within.
func TestOpenAnything(t *testing.T) {
	for _, kind := range []int{-1, 0, 3, 6, 7, 8, 9} {
		b := build.New()
		b.Open(api.Node{Kind: kind, Text: row("a")})
		stands(t, "one of any kind", b, 1, kind)
		b.Text(row("b"), 1)
		closes(t, "one of any kind", b, kind, true)
		stands(t, "one of any kind, closed", b, 0)
		b.Text(row("c"), 2)
		want := []api.Node{para(0, "a"), para(2, "c")}
		if kind != api.Para {
			want = want[1:]
		}
		told(t, "one of any kind", b, want...)
	}
}

func TestClose(t *testing.T) {
	b := build.New()
	b.Open(section("S"))
	b.Open(indent(1))
	b.Open(tag("t"))
	b.Open(indent(2))
	b.Open(tag("u"))
	b.Text(row("a"), 1)
	closes(t, "none of that kind", b, api.Sub, false)
	stands(t, "none of that kind", b, 5, api.Section, api.Indent, api.Tag)
	b.Text(row("b"), 2)
	closes(t, "the innermost of that kind, with those within", b, api.Indent, true)
	stands(t, "the innermost of that kind, with those within", b, 3, api.Section, api.Indent, api.Tag)
	b.Text(row("c"), 3)
	closes(t, "the innermost of all", b, api.Tag, true)
	stands(t, "the innermost of all", b, 2, api.Section, api.Indent)
	b.Text(row("d"), 4)
	closes(t, "one that was closed", b, api.Tag, false)
	b.Text(row("e"), 5)
	told(t, "some closed", b, section("S", indent(1, tag("t", indent(2, tag("u", para(1, "a"), para(2, "b"))), para(3, "c")), para(4, "d"), para(5, "e"))))
	closes(t, "the outermost", b, api.Section, true)
	stands(t, "the outermost", b, 0)
	closes(t, "nothing is open", b, api.Section, false)
	b.Text(row("f"), 6)
	closes(t, "nothing is open, and a paragraph is", b, api.Section, false)
	b.Text(row("g"), 7)
	told(t, "all closed", b, section("S", indent(1, tag("t", indent(2, tag("u", para(1, "a"), para(2, "b"))), para(3, "c")), para(4, "d"), para(5, "e"))), para(6, "f"), para(7, "g"))
}

// What is closed is the last kid of what it is within, behind what was told there.
func TestCloseInOrder(t *testing.T) {
	b := build.New()
	for i := range 3 {
		b.Open(section("S"))
		b.Add(verb("a"))
		b.Open(indent(i))
		b.Add(verb("b"))
		closes(t, "an indent", b, api.Indent, true)
		b.Add(verb("c"))
		closes(t, "a section", b, api.Section, true)
	}
	x := func(i int) api.Node {
		return section("S", verb("a"), indent(i, verb("b")), verb("c"))
	}
	told(t, "one behind the other", b, x(0), x(1), x(2))
}

func TestShut(t *testing.T) {
	opened := func() *build.Builder {
		b := build.New()
		b.Open(section("S"))
		b.Open(sub("T"))
		b.Open(indent(1))
		b.Open(tag("t"))
		b.Open(tag("u"))
		b.Text(row("a"), 1)
		return b
	}
	for _, c := range []struct {
		what  string
		shut  []int
		depth int
		open  []int
		want  []api.Node
	}{
		{"no kinds", nil, 5, []int{1, 2, 4, 5}, []api.Node{section("S", sub("T", indent(1, tag("t", tag("u", para(1, "a"), para(2, "b"))))))}},
		{"not the innermost's", []int{1, 2, 5}, 5, []int{1, 2, 4, 5}, []api.Node{section("S", sub("T", indent(1, tag("t", tag("u", para(1, "a"), para(2, "b"))))))}},
		{"all of one kind", []int{4}, 3, []int{1, 2, 5}, []api.Node{section("S", sub("T", indent(1, tag("t", tag("u", para(1, "a"))), para(2, "b"))))}},
		{"two kinds", []int{5, 4}, 2, []int{1, 2}, []api.Node{section("S", sub("T", indent(1, tag("t", tag("u", para(1, "a")))), para(2, "b")))}},
		{"up to one of another kind", []int{1, 4, 2, 9}, 3, []int{1, 2, 5}, []api.Node{section("S", sub("T", indent(1, tag("t", tag("u", para(1, "a"))), para(2, "b"))))}},
		{"all but the outermost", []int{2, 5, 4, 4}, 1, []int{1}, []api.Node{section("S", sub("T", indent(1, tag("t", tag("u", para(1, "a"))))), para(2, "b"))}},
		{"all", []int{0, 1, 2, 3, 4, 5, 6, 7}, 0, nil, []api.Node{section("S", sub("T", indent(1, tag("t", tag("u", para(1, "a")))))), para(2, "b")}},
	} {
		b := opened()
		b.Shut(c.shut...)
		stands(t, c.what, b, c.depth, c.open...)
		b.Text(row("b"), 2)
		told(t, c.what, b, c.want...)
	}
}

func TestInsideAndDepthEndNothing(t *testing.T) {
	b := build.New()
	b.Open(section("S"))
	b.Text(row("a"), 1)
	stands(t, "a section", b, 1, api.Section)
	b.Text(row("b"), 2)
	told(t, "a section", b, section("S", para(1, "a b")))
}

// The builder stays as it is, whatever it is asked.
func TestDocEndsNothing(t *testing.T) {
	b := build.New()
	b.Text(row("a"), 1)
	told(t, "a paragraph", b, para(1, "a"))
	b.Text(row("b"), 2)
	told(t, "it goes on", b, para(1, "a b"))
	b.Text(row(" "), 3)
	b.Open(section("S"))
	b.Text(row(""), 4)
	told(t, "a paragraph of nothing", b, para(1, "a b"), section("S"))
	b.Text(row("c"), 5)
	b.Open(indent(1))
	told(t, "an indent of nothing", b, para(1, "a b"), section("S", para(4, "c")))
	stands(t, "an indent of nothing", b, 2, api.Section, api.Indent)
	b.Text(row("d"), 6)
	told(t, "a paragraph in it", b, para(1, "a b"), section("S", para(4, "c"), indent(1, para(6, "d"))))
	stands(t, "a paragraph in it", b, 2, api.Section, api.Indent)
	b.Text(row("e"), 7)
	closes(t, "an indent", b, api.Indent, true)
	b.Text(row("f"), 8)
	told(t, "behind it", b, para(1, "a b"), section("S", para(4, "c"), indent(1, para(6, "d e")), para(8, "f")))
	told(t, "and again", b, para(1, "a b"), section("S", para(4, "c"), indent(1, para(6, "d e")), para(8, "f")))
}

func TestDocIsPutRight(t *testing.T) {
	b := build.New()
	b.Open(section(" S  s "))
	b.Open(section("T"))
	b.Open(api.Node{Kind: api.Tag, Line: -1, N: api.MaxStep + 1, Text: row("t"), Rows: rows("no")})
	b.Add(sub("U", para(1, "a")))
	b.Add(indent(1))
	b.Add(verb())
	b.Add(api.Node{Kind: 9, Text: row("no")})
	b.Add(api.Node{Kind: api.Grid, Grid: api.Table{Cols: "?", All: true, Rows: []api.TableRow{{Cells: rows(" b ", "no")}}}})
	at := api.Node{Kind: api.Tag, N: api.MaxStep, Text: row("t"), Kids: []api.Node{para(0, "U"), para(1, "a"), grid("b")}}
	told(t, "what may not be", b, section("S s", para(0, "T"), at))
	if e := tree.Check(b.Doc()); e != api.OK {
		t.Error(e)
	}
}

func TestTooDeep(t *testing.T) {
	const most = 20
	nested := func(n int, x ...api.Node) api.Node {
		for range n - 1 {
			x = []api.Node{tag("t", x...)}
		}
		return tag("t", x...)
	}
	b := build.New()
	for range most - 1 {
		b.Open(tag("t"))
	}
	b.Text(row("a"), 1)
	told(t, "as deep as may be", b, nested(most-1, para(1, "a")))
	b.Open(tag("t"))
	b.Text(row("b"), 2)
	stands(t, "too deep", b, most, api.Tag)
	told(t, "too deep", b, nested(most-1, para(1, "a"), tag("t")))
	b.Open(tag("t"))
	stands(t, "deeper", b, most+1, api.Tag)
	b.Shut(api.Tag)
	b.Text(row("c"), 3)
	told(t, "behind that", b, nested(most-1, para(1, "a"), tag("t")), para(3, "c"))
}

func TestTooMany(t *testing.T) {
	const most = 20000
	b := build.New()
	for i := range most - 1 {
		b.Text(row("a"), i)
		b.End()
	}
	b.Open(section("S"))
	b.Text(row("b"), 1)
	d := b.Doc()
	if n := tree.Count(d.Kids...); n != most || !tree.Same(d.Kids[most-2:], []api.Node{para(most-2, "a"), section("S")}) {
		t.Error(n, d.Kids[len(d.Kids)-2:])
	}
}

// What is no paragraph does not count as a node that there may be.
func TestBlanksDoNotCount(t *testing.T) {
	const most = 20000
	b := build.New()
	for i := range most {
		b.Text(row(""), i)
		b.End()
		b.Text(row("  "), i)
		b.End()
		b.Text(row("a"), i)
		b.End()
	}
	if n := tree.Count(b.Doc().Kids...); n != most {
		t.Error(n)
	}
}

// A builder that is not there takes nothing, and one that New did not make is a new one.
func TestNoBuilder(t *testing.T) {
	var none *build.Builder
	var zero build.Builder
	for _, b := range []*build.Builder{none, &zero} {
		b.End()
		b.Shut(api.Section, 0)
		closes(t, "nothing", b, 0, false)
		stands(t, "nothing", b, 0)
		told(t, "nothing", b)
	}
	none.Title("a", "b", "c", "d")
	none.Text(row("a"), 1)
	none.Add(para(2, "b"))
	none.Open(section("S"))
	none.Text(row("c"), 3)
	closes(t, "nil", none, api.Section, false)
	none.Shut(api.Section)
	none.End()
	stands(t, "nil", none, 0)
	told(t, "nil", none)
	if d := none.Doc(); d.Name != "" || d.Part != "" || d.Date != "" || d.Source != "" {
		t.Error(d)
	}
	zero.Open(section("S"))
	zero.Text(row("a"), 1)
	stands(t, "zero", &zero, 1, api.Section)
	told(t, "zero", &zero, section("S", para(1, "a")))
}

func TestTwoBuilders(t *testing.T) {
	a, b := build.New(), build.New()
	a.Title("a", "", "", "")
	a.Open(section("S"))
	b.Text(row("b"), 1)
	a.Text(row("a"), 2)
	b.Open(indent(1))
	b.Text(row("d"), 3)
	stands(t, "the first", a, 1, api.Section)
	stands(t, "the other", b, 1, api.Indent)
	b.Shut(api.Section, api.Indent)
	a.Text(row("c"), 4)
	told(t, "the first", a, section("S", para(2, "a c")))
	told(t, "the other", b, para(1, "b"), indent(1, para(3, "d")))
	if a.Doc().Name != "a" || b.Doc().Name != "" {
		t.Error(a.Doc().Name, b.Doc().Name)
	}
}
