package tree_test

import (
	"math"
	"slices"
	"testing"

	"flong/api"
	"flong/tree"
)

// tidied holds what becomes of l against want, and that this is right, and stays.
func tidied(t *testing.T, what string, l []api.Node, want ...api.Node) {
	t.Helper()
	got := tree.Tidy(doc(l...))
	if !alike(got.Kids, want) {
		t.Errorf("Tidy of %s: %v, want %v", what, got.Kids, want)
	}
	if e := tree.Check(got); e != api.OK {
		t.Errorf("Tidy of %s is not right: %d", what, e)
	}
	if again := tree.Tidy(got); !alike(again.Kids, got.Kids) {
		t.Errorf("Tidy of %s does not stay: %v", what, again.Kids)
	}
}

// checked holds what Check tells of l; what is right stays, and what is not becomes something else.
func checked(t *testing.T, what string, want api.Errno, l ...api.Node) {
	t.Helper()
	if e := tree.Check(doc(l...)); e != want {
		t.Errorf("Check of %s is %d, want %d", what, e, want)
	}
	if got := tree.Tidy(doc(l...)); alike(got.Kids, l) != (want == api.OK) || tree.Check(got) != api.OK {
		t.Errorf("Tidy of %s: %v", what, got.Kids)
	}
}

// a is a node of that kind that has what it needs.
func a(kind int) api.Node {
	switch kind {
	case api.Indent:
		return indent(0, para("k"))
	case api.Verb:
		return verb("v")
	case api.Grid:
		return grid(table("l", cellsOf("c")))
	}
	return node(kind, "a")
}

// holder is a Section, with a Tag beside, that holds x as x's kind asks for.
func holder(x api.Node) []api.Node {
	if x.Kind == api.Section {
		return []api.Node{tag(1, "b"), x}
	}
	return []api.Node{tag(1, "b"), section("s", x)}
}

func kinds() []int {
	return []int{api.Section, api.Sub, api.Para, api.Tag, api.Indent, api.Verb, api.Grid}
}

func TestCheckRight(t *testing.T) {
	checked(t, "nothing", api.OK)
	checked(t, "everything", api.OK, everything()...)
	for _, kind := range kinds() {
		checked(t, "a node of each kind", api.OK, holder(a(kind))...)
	}
	checked(t, "a tag of nothing", api.OK, tag(0, ""))
	checked(t, "a tag with text alone", api.OK, tag(0, "a b"))
	checked(t, "a tag with kids alone", api.OK, tag(0, "", tag(1, ""), tag(2, "")))
	checked(t, "headings without kids", api.OK, section("a", sub("b"), sub("c")), section("d"))
	checked(t, "a verb of an empty row", api.OK, verb(""))
	checked(t, "a verb's rows as they are", api.OK, api.Node{Kind: api.Verb, Rows: [][]api.Glyph{rowSet(bold, "  a  b \t"), nil, {{R: -1, S: 255}}}})
	checked(t, "a grid of a rule", api.OK, grid(table("l", rule())))
	checked(t, "nodes at the top", api.OK, para("a"), tag(1, "b"), indent(1, verb("c")), grid(table("r", cellsOf("d"))), verb("e"))
	checked(t, "nodes in nodes", api.OK, indent(1, tag(1, "a", indent(2, para("b"), indent(3, verb("c"))), para("d"))), section("e", indent(1, para("f")), sub("g", tag(1, ""), verb("h"))))
	checked(t, "a paragraph of a hard blank", api.OK, para("\u00a0"))
}

func TestCheckNumbers(t *testing.T) {
	for _, kind := range kinds() {
		for _, n := range []int{math.MinInt, -1, 0, 1, api.MaxPlace - 1, api.MaxPlace, api.MaxPlace + 1, math.MaxInt} {
			x := a(kind)
			x.Line = n
			want := api.OK
			if n < 0 || n > 1<<40-1 {
				want = api.ErrArg
			}
			checked(t, "a line", want, holder(x)...)
		}
		for _, n := range []int{math.MinInt, -1, 0, 1, api.MaxStep - 1, api.MaxStep, api.MaxStep + 1, math.MaxInt} {
			x := a(kind)
			x.N = n
			want := api.ErrArg
			if n == 0 || n >= 0 && n <= 200 && (kind == api.Tag || kind == api.Indent) {
				want = api.OK
			}
			checked(t, "an N", want, holder(x)...)
		}
	}
}

func TestCheckKinds(t *testing.T) {
	for _, kind := range []int{0, 8, 9, -1, math.MinInt, math.MaxInt, 257, 1<<32 + api.Para} {
		x := a(api.Para)
		x.Kind = kind
		checked(t, "no kind", api.ErrArg, x)
		checked(t, "no kind inside", api.ErrArg, holder(x)...)
		checked(t, "no kind of a tag", api.ErrArg, tag(1, "a", x, para("b")))
	}
}

func TestCheckPlaces(t *testing.T) {
	for _, kind := range []int{api.Section, api.Sub, api.Tag, api.Indent} {
		outer := node(kind, "")
		if kind != api.Indent {
			outer = a(kind)
		}
		outer.Kids = []api.Node{para("k")}
		for _, inner := range kinds() {
			x := outer
			x.Kids = []api.Node{para("k"), a(inner)}
			want := api.OK
			if inner == api.Section || inner == api.Sub && kind != api.Section {
				want = api.ErrArg
			}
			checked(t, "one in another", want, holder(x)...)
		}
	}
	checked(t, "a sub at the top", api.ErrArg, sub("a"))
	checked(t, "a sub at the top behind a section", api.ErrArg, section("a"), sub("b"))
	checked(t, "a section further in", api.ErrArg, section("a", sub("b", tag(1, "c", section("d")))))
	checked(t, "a sub further in", api.ErrArg, section("a", tag(1, "c", sub("d"))))
}

// fields are the things that nodes of some kinds may have, and those kinds.
func fields() []struct {
	what string
	add  func(x *api.Node)
	may  []int
} {
	return []struct {
		what string
		add  func(x *api.Node)
		may  []int
	}{
		{"text", func(x *api.Node) { x.Text = row("a b") }, []int{api.Section, api.Sub, api.Para, api.Tag}},
		{"kids", func(x *api.Node) { x.Kids = []api.Node{para("b")} }, []int{api.Section, api.Sub, api.Tag, api.Indent}},
		{"rows", func(x *api.Node) { x.Rows = rows("a") }, []int{api.Verb}},
		{"a row of nothing", func(x *api.Node) { x.Rows = rows("") }, []int{api.Verb}},
		{"a table", func(x *api.Node) { x.Grid = table("l", cellsOf("a")) }, []int{api.Grid}},
		{"a table's columns", func(x *api.Node) { x.Grid.Cols = "l" }, []int{api.Grid}},
		{"a table's box", func(x *api.Node) { x.Grid.Box = true }, []int{api.Grid}},
		{"all of a table's box", func(x *api.Node) { x.Grid.Box, x.Grid.All = true, true }, []int{api.Grid}},
		{"a table's row", func(x *api.Node) { x.Grid.Rows = []api.TableRow{rule()} }, []int{api.Grid}},
		{"an N", func(x *api.Node) { x.N = 7 }, []int{api.Tag, api.Indent}},
		{"nothing at all", func(x *api.Node) {
			x.Text, x.Kids, x.Rows, x.Grid.Rows = slices.Concat([]api.Glyph{}, x.Text), slices.Concat([]api.Node{}, x.Kids), slices.Concat([][]api.Glyph{}, x.Rows), slices.Concat([]api.TableRow{}, x.Grid.Rows)
		}, kinds()},
	}
}

// A node has what its kind may have: all else makes it wrong, and is left out.
func TestFieldsByKind(t *testing.T) {
	for _, kind := range kinds() {
		for _, f := range fields() {
			x := a(kind)
			f.add(&x)
			want := api.ErrArg
			if slices.Contains(f.may, kind) {
				want = api.OK
			}
			checked(t, f.what, want, holder(x)...)
			if want != api.OK {
				tidied(t, f.what, holder(x), holder(a(kind))...)
			}
		}
	}
}

// A node of a kind that may have no Kids has them neither within it nor in its place.
func TestKidsThatMayNotBe(t *testing.T) {
	kids := []api.Node{para("b"), tag(1, "c", para("d"))}
	for _, kind := range []int{api.Para, api.Verb, api.Grid} {
		x := a(kind)
		x.Kids = kids
		tidied(t, "kids of one that stays", []api.Node{x, para("e")}, a(kind), para("e"))
	}
	for _, kind := range []int{api.Para, api.Verb, api.Grid, 0, 8, 9, -1} {
		tidied(t, "kids of one that is left out", []api.Node{{Kind: kind, Kids: kids}, para("e")}, para("e"))
	}
	tidied(t, "a node of no kind", []api.Node{{Kind: 9, Line: 3, Text: row("a"), Rows: rows("b"), Grid: table("l", cellsOf("c"))}})
}

func TestTexts(t *testing.T) {
	mixed := slices.Concat(rowSet(bold, " a "), rowSet(slant, " b "))
	squeezed := slices.Concat(rowSet(bold, "a"), row(" "), rowSet(slant, "b"))
	for _, kind := range []int{api.Section, api.Sub, api.Para, api.Tag} {
		for _, s := range []string{" a", "a ", "a  b", " "} {
			checked(t, "a text with blanks", api.ErrArg, holder(node(kind, s))...)
		}
		x, y := node(kind, ""), node(kind, "")
		x.Text, y.Text = mixed, squeezed
		checked(t, "a text with blanks set", api.ErrArg, holder(x)...)
		checked(t, "a text squeezed", api.OK, holder(y)...)
		tidied(t, "a text with blanks", holder(x), holder(y)...)
	}
	for _, kind := range []int{api.Section, api.Sub, api.Para} {
		for _, s := range []string{"", " ", "   "} {
			checked(t, "no text", api.ErrArg, holder(node(kind, s))...)
		}
	}
	tidied(t, "a tag of blanks", []api.Node{tag(3, "  ")}, tag(3, ""))
}

func TestNumbersAreClipped(t *testing.T) {
	for _, c := range [][2]int{{math.MinInt, 0}, {-1, 0}, {0, 0}, {1, 1}, {api.MaxPlace, api.MaxPlace}, {api.MaxPlace + 1, api.MaxPlace}, {math.MaxInt, api.MaxPlace}} {
		for _, kind := range kinds() {
			tidied(t, "a line", holder(at(c[0], a(kind))), holder(at(c[1], a(kind)))...)
		}
		tidied(t, "a line of a heading that is none", []api.Node{at(c[0], sub("a"))}, at(c[1], para("a")))
	}
	for _, c := range [][2]int{{math.MinInt, 0}, {-1, 0}, {0, 0}, {1, 1}, {200, 200}, {201, 200}, {math.MaxInt, 200}} {
		tidied(t, "an N", []api.Node{tag(c[0], "a"), indent(c[0], para("b"))}, tag(c[1], "a"), indent(c[1], para("b")))
	}
}

func TestHeadingsElsewhere(t *testing.T) {
	for _, c := range []struct {
		what    string
		l, want []api.Node
	}{
		{"a section in a section", []api.Node{section("a", para("b"), section("c", para("d"), verb("e")), para("f"))},
			[]api.Node{section("a", para("b"), para("c"), para("d"), verb("e"), para("f"))}},
		{"a section in a sub", []api.Node{section("a", sub("b", section("c", para("d"))), para("e"))},
			[]api.Node{section("a", sub("b", para("c"), para("d")), para("e"))}},
		{"a section in a tag", []api.Node{tag(1, "a", section("b", para("c")))}, []api.Node{tag(1, "a", para("b"), para("c"))}},
		{"a section in an indent", []api.Node{indent(1, section("b"))}, []api.Node{indent(1, para("b"))}},
		{"a sub at the top", []api.Node{para("a"), sub("b", para("c"), tag(1, "d")), para("e")},
			[]api.Node{para("a"), para("b"), para("c"), tag(1, "d"), para("e")}},
		{"a sub in a sub", []api.Node{section("a", sub("b", sub("c", para("d")), para("e")), sub("f"))},
			[]api.Node{section("a", sub("b", para("c"), para("d"), para("e")), sub("f"))}},
		{"a sub in a tag", []api.Node{section("a", tag(1, "b", sub("c", para("d"))))}, []api.Node{section("a", tag(1, "b", para("c"), para("d")))}},
		{"a sub in an indent", []api.Node{section("a", indent(1, sub("c", para("d"))))}, []api.Node{section("a", indent(1, para("c"), para("d")))}},
		{"sections in sections", []api.Node{section("a", section("b", section("c", section("d")), section("e")))},
			[]api.Node{section("a", para("b"), para("c"), para("d"), para("e"))}},
	} {
		tidied(t, c.what, c.l, c.want...)
		checked(t, c.what, api.ErrArg, c.l...)
	}
}

// What stands in another's place is put right there: it may be there what it could not be within.
func TestInItsPlace(t *testing.T) {
	for _, c := range []struct {
		what    string
		l, want []api.Node
	}{
		{"a section in a sub at the top", []api.Node{sub("a", section("b", sub("c", para("d"))))}, []api.Node{para("a"), section("b", sub("c", para("d")))}},
		{"a sub in a section in a section", []api.Node{section("a", section("b", sub("c", para("d"))))}, []api.Node{section("a", para("b"), sub("c", para("d")))}},
		{"a sub in a sub without text", []api.Node{section("a", sub(" ", sub("b", para("c"))))}, []api.Node{section("a", sub("b", para("c")))}},
		{"a sub in a section without text", []api.Node{section(" ", sub("b", para("c")))}, []api.Node{para("b"), para("c")}},
		{"a section in a section without text", []api.Node{section("", section("b", sub("c")))}, []api.Node{section("b", sub("c"))}},
		{"a section in sections, and a sub, without text", []api.Node{section("", section(" ", sub("", section("b", para("c")))))}, []api.Node{section("b", para("c"))}},
		{"a section in a section that is none", []api.Node{tag(1, "a", section("b", section("c", para("d"))))}, []api.Node{tag(1, "a", para("b"), para("c"), para("d"))}},
		{"kids of a heading without text, elsewhere", []api.Node{para("a"), tag(1, "b", section(" ", para("c"), sub("", para("d"))), para("e"))}, []api.Node{para("a"), tag(1, "b", para("c"), para("d"), para("e"))}},
	} {
		tidied(t, c.what, c.l, c.want...)
		checked(t, c.what, api.ErrArg, c.l...)
	}
}

func TestLeftOut(t *testing.T) {
	for _, c := range []struct {
		what    string
		l, want []api.Node
	}{
		{"a paragraph without text", []api.Node{para("a"), para(""), para(" "), para("b")}, []api.Node{para("a"), para("b")}},
		{"a section without text", []api.Node{section("", para("a"), verb("b")), section(" ")}, []api.Node{para("a"), verb("b")}},
		{"a sub without text", []api.Node{section("a", para("b"), sub("  ", para("c"), verb("d")), para("e"))}, []api.Node{section("a", para("b"), para("c"), verb("d"), para("e"))}},
		{"an indent without kids", []api.Node{indent(3), {Kind: api.Indent, Kids: []api.Node{}}, para("a")}, []api.Node{para("a")}},
		{"an indent whose kids are left out", []api.Node{indent(3, para(" "), verb(), api.Node{Kind: 9}), para("a")}, []api.Node{para("a")}},
		{"indents within one another, whose kids are left out", []api.Node{tag(1, "a", indent(3, indent(4, indent(5), section(" ")), verb()))}, []api.Node{tag(1, "a")}},
		{"an indent one of whose kids is left out", []api.Node{indent(3, para(" "), para("a"))}, []api.Node{indent(3, para("a"))}},
		{"a verb without rows", []api.Node{verb(), {Kind: api.Verb, Rows: [][]api.Glyph{}, Text: row("a")}, para("a")}, []api.Node{para("a")}},
		{"a grid without rows", []api.Node{grid(api.Table{}), grid(api.Table{Cols: "lr", Box: true, All: true}), para("a")}, []api.Node{para("a")}},
	} {
		tidied(t, c.what, c.l, c.want...)
		checked(t, c.what, api.ErrArg, c.l...)
	}
}

func TestRowsAsTheyAre(t *testing.T) {
	x := api.Node{Kind: api.Verb, Rows: [][]api.Glyph{rowSet(bold, "  a  b "), nil, row("\t\u00a0"), {{R: -1, S: 255}}, {}}}
	tidied(t, "rows", []api.Node{x}, x)
}

func TestGridIsMended(t *testing.T) {
	checked(t, "a grid that is not right", api.ErrArg, grid(table("lr", cellsOf(" a", "b"))))
	checked(t, "a grid of no columns", api.ErrArg, grid(table("", cellsOf("a"))))
	checked(t, "a grid, all of it", api.ErrArg, grid(api.Table{Cols: "l", All: true, Rows: []api.TableRow{rule()}}))
	tidied(t, "a grid", []api.Node{grid(api.Table{Cols: "xlr", All: true, Rows: []api.TableRow{cellsOf(" a  b"), {Rule: true, Cells: rows("c")}, cellsOf("d", "e", "f")}})},
		grid(table("lr", cellsOf("a b", ""), rule(), cellsOf("d", "e"))))
	tidied(t, "a grid in a box", []api.Node{grid(api.Table{Box: true, All: true, Rows: []api.TableRow{{}}})},
		grid(api.Table{Cols: "l", Box: true, All: true, Rows: []api.TableRow{cellsOf("")}}))
}

func TestTheRestOfADocumentStays(t *testing.T) {
	d := api.Doc{Name: " a\x00", Part: "1\xff", Date: "  ", Source: "\\fBs", Kids: []api.Node{sub("a"), para(" ")}}
	got := tree.Tidy(d)
	if got.Name != d.Name || got.Part != d.Part || got.Date != d.Date || got.Source != d.Source || !alike(got.Kids, []api.Node{para("a")}) {
		t.Error(got)
	}
	d.Kids = nil
	if e := tree.Check(d); e != api.OK {
		t.Error(e)
	}
}

// many is n paragraphs, each at a line of its own.
func many(n int) []api.Node {
	l := make([]api.Node, n)
	for i := range l {
		l[i] = at(i, para("a"))
	}
	return l
}

func TestTooMany(t *testing.T) {
	const most = 20000
	all := many(most + 300)
	checked(t, "as many as may be", api.OK, all[:most]...)
	checked(t, "one more", api.ErrLong, all[:most+1]...)
	checked(t, "as many as may be, some of them inside", api.OK, section("s", all[:most-1]...))
	checked(t, "one more, most of them inside", api.ErrLong, section("s", all[:most]...))
	tidied(t, "one more", all[:most+1], all[:most]...)
	tidied(t, "many more", all, all[:most]...)
	tidied(t, "one more inside", []api.Node{section("s", all[:most]...), para("b")}, section("s", all[:most-1]...))
	front := func(n int, l ...api.Node) []api.Node {
		return slices.Concat(all[:n], l)
	}
	tidied(t, "each ahead of its kids", front(most-2, tag(1, "t", para("b"), para("c")), para("d")), front(most-2, tag(1, "t", para("b")))...)
	tidied(t, "a tag as the last", front(most-1, tag(1, "t", para("b")), para("d")), front(most-1, tag(1, "t"))...)
	tidied(t, "an indent as the last", front(most-1, indent(1, para("b")), para("d")), front(most-1)...)
	tidied(t, "a heading that is none as the last", front(most-1, sub("s", para("b")), para("d")), front(most-1, para("s"))...)
	tidied(t, "a heading that is none, and a kid", front(most-2, sub("s", para("b"), para("c")), para("d")), front(most-2, para("s"), para("b"))...)
	tidied(t, "a heading without text as the last", front(most-1, section("", para("b")), para("d")), front(most-1)...)
	tidied(t, "what is left out, ahead", slices.Concat(slices.Repeat([]api.Node{para(" ")}, most-1), []api.Node{para("b"), para("c")}), para("b"))
	if e := tree.Check(doc(slices.Repeat([]api.Node{{Kind: 9, Line: -1}}, most+1)...)); e != api.ErrLong {
		t.Error("too many, that are wrong, too", e)
	}
	if e := tree.Check(doc(slices.Repeat([]api.Node{{Kind: 9, Line: -1}}, most)...)); e != api.ErrArg {
		t.Error("as many as may be, that are wrong", e)
	}
}

func TestTooDeep(t *testing.T) {
	const most = 20
	checked(t, "as deep as may be", api.OK, nested(most-1, tagged, para("a")))
	checked(t, "deeper", api.ErrLong, nested(most, tagged, para("a")))
	checked(t, "deeper beside others", api.ErrLong, para("a"), section("b", nested(most-1, tagged, para("c"))), para("d"))
	checked(t, "as deep as may be in a section", api.OK, section("b", sub("c", nested(most-3, tagged, para("a")))))
	tidied(t, "deeper", []api.Node{nested(most, tagged, para("a")), para("b")}, nested(most-1, tagged, tagged()), para("b"))
	tidied(t, "much deeper", []api.Node{nested(3*most, tagged, para("a")), para("b")}, nested(most-1, tagged, tagged()), para("b"))
	tidied(t, "deeper, one of two", []api.Node{nested(most-2, tagged, tagged(tagged(para("a")), para("b")))}, nested(most-2, tagged, tagged(tagged(), para("b"))))
	tidied(t, "indents as deep as may be", []api.Node{nested(most-1, indented, para("a"))}, nested(most-1, indented, para("a")))
	tidied(t, "indents deeper", []api.Node{nested(most, indented, para("a")), para("b")}, para("b"))
	tidied(t, "an indent deeper", []api.Node{nested(most-1, tagged, indented(para("a")))}, nested(most-2, tagged, tagged()))
	if e := tree.Check(doc(nested(most, tagged, api.Node{Kind: 9}))); e != api.ErrLong {
		t.Error("too deep, and wrong", e)
	}
	if e := tree.Check(doc(nested(most-1, tagged, api.Node{Kind: 9}))); e != api.ErrArg {
		t.Error("as deep as may be, and wrong", e)
	}
}

// Kids that stand in another's place are as deep as it stood.
func TestAsDeepAsItStood(t *testing.T) {
	const most = 20
	subs := func(kids ...api.Node) api.Node {
		return sub("s", kids...)
	}
	tidied(t, "tags in a sub at the top", []api.Node{sub("s", nested(most-1, tagged, para("a")))}, para("s"), nested(most-1, tagged, para("a")))
	tidied(t, "tags, one too deep, in a sub at the top", []api.Node{sub("s", nested(most, tagged, para("a")))}, para("s"), nested(most-1, tagged, tagged()))
	tidied(t, "tags in a section without text", []api.Node{section(" ", nested(most-1, tagged, para("a")))}, nested(most-1, tagged, para("a")))
	tidied(t, "subs in subs", []api.Node{nested(2*most, subs, para("a"))}, append(slices.Repeat([]api.Node{para("s")}, 2*most), para("a"))...)
}
