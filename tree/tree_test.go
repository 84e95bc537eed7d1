package tree_test

import (
	"math"
	"slices"
	"testing"

	"flong/api"
	"flong/cells"
	"flong/tree"
)

const (
	plain = 0
	bold  = api.Bold
	slant = api.Slant
)

// row is the runes of s, set plain.
func row(s string) []api.Glyph {
	return rowSet(plain, s)
}

func rowSet(set uint8, s string) []api.Glyph {
	var out []api.Glyph
	for _, r := range s {
		out = append(out, api.Glyph{R: r, S: set})
	}
	return out
}

// rows is a row of each text.
func rows(texts ...string) [][]api.Glyph {
	var out [][]api.Glyph
	for _, s := range texts {
		out = append(out, row(s))
	}
	return out
}

func node(kind int, s string, kids ...api.Node) api.Node {
	return api.Node{Kind: kind, Text: row(s), Kids: kids}
}

func section(s string, kids ...api.Node) api.Node {
	return node(api.Section, s, kids...)
}

func sub(s string, kids ...api.Node) api.Node {
	return node(api.Sub, s, kids...)
}

func para(s string) api.Node {
	return node(api.Para, s)
}

func tag(n int, s string, kids ...api.Node) api.Node {
	x := node(api.Tag, s, kids...)
	x.N = n
	return x
}

func indent(n int, kids ...api.Node) api.Node {
	return api.Node{Kind: api.Indent, N: n, Kids: kids}
}

func verb(texts ...string) api.Node {
	return api.Node{Kind: api.Verb, Rows: rows(texts...)}
}

func grid(t api.Table) api.Node {
	return api.Node{Kind: api.Grid, Grid: t}
}

// at is x at a line.
func at(line int, x api.Node) api.Node {
	x.Line = line
	return x
}

func table(cols string, l ...api.TableRow) api.Table {
	return api.Table{Cols: cols, Rows: l}
}

func cellsOf(texts ...string) api.TableRow {
	return api.TableRow{Cells: rows(texts...)}
}

func rule() api.TableRow {
	return api.TableRow{Rule: true}
}

// nested is x within n of what within makes.
func nested(n int, within func(kids ...api.Node) api.Node, x api.Node) api.Node {
	for range n {
		x = within(x)
	}
	return x
}

func tagged(kids ...api.Node) api.Node {
	return tag(1, "t", kids...)
}

func indented(kids ...api.Node) api.Node {
	return indent(2, kids...)
}

func doc(l ...api.Node) api.Doc {
	return api.Doc{Kids: l}
}

func equal(t *testing.T, what string, got, want []api.Glyph) {
	t.Helper()
	if !slices.Equal(got, want) {
		t.Errorf("%s: %v, want %v", what, got, want)
	}
}

// alike holds a against b without a call of the package: field by field.
func alike(a, b []api.Node) bool {
	return slices.EqualFunc(a, b, func(x, y api.Node) bool {
		return x.Kind == y.Kind && x.Line == y.Line && x.N == y.N && slices.Equal(x.Text, y.Text) &&
			slices.EqualFunc(x.Rows, y.Rows, slices.Equal[[]api.Glyph]) && tablesAlike(x.Grid, y.Grid) && alike(x.Kids, y.Kids)
	})
}

func tablesAlike(a, b api.Table) bool {
	return a.Cols == b.Cols && a.Box == b.Box && a.All == b.All && slices.EqualFunc(a.Rows, b.Rows, func(x, y api.TableRow) bool {
		return x.Rule == y.Rule && slices.EqualFunc(x.Cells, y.Cells, slices.Equal[[]api.Glyph])
	})
}

// everything has a node of each kind, right, and at a line of its own.
func everything() []api.Node {
	return []api.Node{
		at(1, para("before it")),
		at(2, section("A b",
			at(3, para("c")),
			at(4, sub("d",
				at(5, tag(4, "e", at(6, para("f g")), at(7, verb("  h", "", " i ")))),
				at(8, indent(7, at(9, tag(0, "")), at(10, grid(api.Table{Cols: "lr", Box: true, All: true, Rows: []api.TableRow{cellsOf("j", "k l"), rule(), cellsOf("", "m")}})))))),
			at(11, sub("n")))),
		at(12, section("o")),
	}
}

func TestCount(t *testing.T) {
	for _, c := range []struct {
		what string
		l    []api.Node
		want int
	}{
		{"nothing", nil, 0},
		{"none", []api.Node{}, 0},
		{"one", []api.Node{para("a")}, 1},
		{"one beside another", []api.Node{para("a"), {}}, 2},
		{"one in another", []api.Node{section("a", para("b"))}, 2},
		{"those that may not be, and what is in them", []api.Node{{Kind: 9, Kids: []api.Node{node(api.Para, "", para(""))}}, verb()}, 4},
		{"everything", everything(), 12},
		{"in two", []api.Node{nested(5, tagged, para("a")), nested(3, indented, para("a"))}, 10},
	} {
		if got := tree.Count(c.l...); got != c.want {
			t.Errorf("Count of %s is %d, want %d", c.what, got, c.want)
		}
	}
}

func TestDeep(t *testing.T) {
	for _, c := range []struct {
		what string
		l    []api.Node
		want int
	}{
		{"nothing", nil, 0},
		{"none", []api.Node{}, 0},
		{"one", []api.Node{para("a")}, 1},
		{"one beside another", []api.Node{para("a"), {}}, 1},
		{"one in another", []api.Node{section("a", para("b"))}, 2},
		{"the first", []api.Node{nested(3, tagged, para("a")), para("b"), nested(1, tagged, para("c"))}, 4},
		{"one between", []api.Node{para("b"), nested(3, tagged, para("a")), para("c")}, 4},
		{"the last", []api.Node{para("b"), nested(1, tagged, para("c")), nested(3, tagged, para("a"))}, 4},
		{"in one of which one is deeper", []api.Node{section("a", nested(2, indented, para("b")), para("c"))}, 4},
		{"those that may not be", []api.Node{{Kind: 9, Kids: []api.Node{node(api.Para, "", para(""))}}}, 3},
		{"everything", everything(), 4},
	} {
		if got := tree.Deep(c.l...); got != c.want {
			t.Errorf("Deep of %s is %d, want %d", c.what, got, c.want)
		}
	}
}

func TestSqueezed(t *testing.T) {
	for _, c := range []struct {
		l    []api.Glyph
		want bool
	}{
		{nil, true},
		{[]api.Glyph{}, true},
		{row("a"), true},
		{row("a b"), true},
		{row("a b c"), true},
		{rowSet(bold, "ab"), true},
		{slices.Concat(rowSet(bold, "a"), row(" "), rowSet(slant, "b")), true},
		{row(" "), false},
		{row(" a"), false},
		{row("a "), false},
		{row("a  b"), false},
		{row("a b  c"), false},
		{rowSet(bold, "a b"), false},
		{rowSet(128, " "), false},
		{row("\u00a0a\u00a0\u00a0b\u00a0"), true},
		{row("\ta\t\tb\n"), true},
		{row("\u0301"), true},
		{[]api.Glyph{{R: -1, S: 255}, {R: 0, S: 4}}, true},
	} {
		if got := tree.Squeezed(c.l); got != c.want {
			t.Errorf("Squeezed of %v: %v", c.l, got)
		}
	}
}

func TestLeaves(t *testing.T) {
	equal(t, "nothing", tree.Leaves(), nil)
	equal(t, "everything", tree.Leaves(everything()...), row("beforeitAbcdefghijklmno"))
	all := api.Node{
		Text: row("a b"),
		Kids: []api.Node{para("l"), node(9, "m", para("n"))},
		Rows: rows(" c d", "", "e"),
		Grid: table("", cellsOf("f", " g "), api.TableRow{Rule: true, Cells: rows("h")}, cellsOf("i", "j", "k")),
	}
	for _, kind := range []int{0, api.Section, api.Sub, api.Para, api.Tag, api.Indent, api.Verb, api.Grid, 8, -1} {
		all.Kind = kind
		equal(t, "all that a node has", tree.Leaves(all, para("o"), all), row("abcdefghijklmnoabcdefghijklmn"))
	}
	l := slices.Concat(rowSet(bold, " a "), rowSet(255, " b"), row("\u00a0\t\n\u0301"), []api.Glyph{{R: -1, S: 3}, {R: 0, S: 2}, {R: 0x110000}})
	want := slices.Concat(rowSet(bold, "a"), rowSet(255, "b"), row("\u00a0\t\n\u0301"), []api.Glyph{{R: -1, S: 3}, {R: 0, S: 2}, {R: 0x110000}})
	equal(t, "as they are set", tree.Leaves(api.Node{Text: l}), want)
}

func headsEqual(a, b []api.Head) bool {
	return slices.EqualFunc(a, b, func(x, y api.Head) bool {
		return x.Level == y.Level && x.Line == y.Line && slices.Equal(x.Text, y.Text)
	})
}

func TestHeads(t *testing.T) {
	blanks := rowSet(bold, "  f  g ")
	for _, c := range []struct {
		what string
		l    []api.Node
		want []api.Head
	}{
		{"nothing", nil, nil},
		{"none", []api.Node{para("a"), tag(1, "b", verb("c"))}, nil},
		{"everything", everything(), []api.Head{{Level: 1, Line: 2, Text: row("A b")}, {Level: 2, Line: 4, Text: row("d")}, {Level: 2, Line: 11, Text: row("n")}, {Level: 1, Line: 12, Text: row("o")}}},
		{"anywhere", []api.Node{at(9, sub("a", at(-8, indent(1, at(-7, section("b", at(6, sub("c")))))))), {Kind: 9, Kids: []api.Node{node(api.Para, "d", at(1<<50, section("e")))}}},
			[]api.Head{{Level: 2, Line: 9, Text: row("a")}, {Level: 1, Line: -7, Text: row("b")}, {Level: 2, Line: 6, Text: row("c")}, {Level: 1, Line: 1 << 50, Text: row("e")}}},
		{"as they are", []api.Node{{Kind: api.Section, N: 3, Text: blanks}, {Kind: api.Sub}, {Kind: api.Section}},
			[]api.Head{{Level: 1, Text: blanks}, {Level: 2}, {Level: 1}}},
	} {
		if got := tree.Heads(c.l...); !headsEqual(got, c.want) {
			t.Errorf("Heads of %s: %v, want %v", c.what, got, c.want)
		}
	}
}

// others is what is not the same as everything, each in one thing.
func others() map[string][]api.Node {
	out := map[string][]api.Node{"nothing": nil}
	change := func(what string, do func(l []api.Node)) {
		l := everything()
		do(l)
		out[what] = l
	}
	change("a kind", func(l []api.Node) { l[0].Kind = api.Tag })
	change("a line", func(l []api.Node) { l[2].Line++ })
	change("an N", func(l []api.Node) { l[0].N++ })
	change("an N further in", func(l []api.Node) { l[1].Kids[1].Kids[0].N++ })
	change("a rune", func(l []api.Node) { l[1].Text[0].R++ })
	change("how one is set", func(l []api.Node) { l[1].Text[2].S = bold })
	change("a shorter text", func(l []api.Node) { l[1].Text = l[1].Text[:2] })
	change("a text", func(l []api.Node) { l[1].Kids[1].Kids[1].Text = row("a") })
	change("a row", func(l []api.Node) { l[0].Rows = rows("a") })
	change("an empty row more", func(l []api.Node) { l[0].Rows = rows("") })
	change("a rune in a row", func(l []api.Node) { l[1].Kids[1].Kids[0].Kids[1].Rows[2][1].R++ })
	change("a row less", func(l []api.Node) { l[1].Kids[1].Kids[0].Kids[1].Rows = rows("  h", "") })
	change("a table", func(l []api.Node) { l[0].Grid.Cols = "l" })
	change("a table's box", func(l []api.Node) { l[0].Grid.Box = true })
	change("a table's cell", func(l []api.Node) { l[1].Kids[1].Kids[1].Kids[1].Grid.Rows[2].Cells[1] = row("a") })
	change("a kid more", func(l []api.Node) { l[2].Kids = []api.Node{{}} })
	change("a kid less", func(l []api.Node) { l[1].Kids = l[1].Kids[:2] })
	change("the order of kids", func(l []api.Node) { slices.Reverse(l[1].Kids) })
	change("the order", func(l []api.Node) { slices.Reverse(l) })
	out["one less"] = everything()[:2]
	out["one more"] = append(everything(), api.Node{})
	return out
}

func TestSame(t *testing.T) {
	if !tree.Same(nil, nil) || !tree.Same(nil, []api.Node{}) || !tree.Same(everything(), everything()) {
		t.Error("what is the same is not")
	}
	for what, l := range others() {
		if tree.Same(l, everything()) || tree.Same(everything(), l) {
			t.Errorf("%s: the same", what)
		}
		if !tree.Same(l, l) {
			t.Errorf("%s: not the same as itself", what)
		}
	}
	empty := api.Node{Text: []api.Glyph{}, Kids: []api.Node{}, Rows: [][]api.Glyph{}, Grid: api.Table{Rows: []api.TableRow{}}}
	if !tree.Same([]api.Node{empty}, []api.Node{{}}) || !tree.Same([]api.Node{{}}, []api.Node{empty}) {
		t.Error("what is empty is not the same as what is not there")
	}
	emptyRow := api.Node{Rows: [][]api.Glyph{{}}}
	if !tree.Same([]api.Node{emptyRow}, []api.Node{{Rows: [][]api.Glyph{nil}}}) {
		t.Error("an empty row is not the same as one that is not there")
	}
}

func TestExample(t *testing.T) {
	if got := tree.Tidy(doc(indent(3))); len(got.Kids) != 0 {
		t.Error(got)
	}
	if got := tree.Tidy(doc(section("a", section("b")))); !alike(got.Kids, []api.Node{section("a", para("b"))}) {
		t.Error(got)
	}
}

// Nodes far within one another, and many side by side, are answered as few are.
func TestLarge(t *testing.T) {
	const n = 1<<16 - 1
	for _, l := range [][]api.Node{
		{nested(n, tagged, para("a"))},
		{nested(n, indented, para("a"))},
		{nested(n, func(kids ...api.Node) api.Node { return section("t", kids...) }, para("a"))},
		{nested(n, func(kids ...api.Node) api.Node { return node(9, "t", kids...) }, para("a"))},
		slices.Repeat([]api.Node{section("t")}, n+1),
	} {
		d := doc(l...)
		if tree.Count(l...) != n+1 || len(tree.Leaves(l...)) < 1 || len(tree.Heads(l...)) > n+1 || !tree.Same(l, l) {
			t.Error("not told as few are")
		}
		if e := tree.Check(d); e != api.ErrLong {
			t.Error(e)
		}
		if got := tree.Tidy(d); tree.Check(got) != api.OK {
			t.Error("not put right")
		}
	}
	if got := tree.Deep(nested(n, tagged, para("a"))); got != n+1 {
		t.Error(got)
	}
	text := slices.Repeat(row(" a"), 1<<20)
	if got := tree.Tidy(doc(api.Node{Kind: api.Para, Text: text})); len(got.Kids) != 1 || len(got.Kids[0].Text) != 1<<21-1 {
		t.Error("a long text")
	}
	if got := tree.Leaves(api.Node{Text: text}); len(got) != 1<<20 {
		t.Error(len(got))
	}
}

// Lines and steps of any size are told as they are, or clipped.
func TestAnyNumbers(t *testing.T) {
	for _, n := range []int{math.MinInt, -1, 0, 1, math.MaxInt} {
		x := tag(n, "a")
		x.Line = n
		if got := tree.Tidy(doc(x)); tree.Check(got) != api.OK || cells.Text(got.Kids[0].Text...) != "a" {
			t.Error(n, got)
		}
		if h := tree.Heads(at(n, section("a"))); len(h) != 1 || h[0].Line != n {
			t.Error(n, h)
		}
	}
}
