package tree_test

import (
	"slices"
	"strings"
	"testing"

	"flong/api"
	"flong/tree"
)

// lots is n cells.
func lots(n int) api.TableRow {
	return api.TableRow{Cells: rows(slices.Repeat([]string{"a"}, n)...)}
}

func TestRight(t *testing.T) {
	for _, c := range []struct {
		what string
		t    api.Table
		want bool
	}{
		{"no columns", api.Table{}, false},
		{"no columns, no cells", table("", api.TableRow{}), false},
		{"a column", table("l"), true},
		{"each sign", table("lcr"), true},
		{"as many as there may be", table(strings.Repeat("r", api.MaxCols)), true},
		{"more", table(strings.Repeat("r", api.MaxCols+1)), false},
		{"many more", table(strings.Repeat("r", 300)), false},
		{"a large sign", table("lL"), false},
		{"another sign first", table("xl"), false},
		{"another sign last", table("lx"), false},
		{"a blank", table("l r"), false},
		{"a rune of two bytes", table("\u0106"), false},
		{"no rune", table("l\xff"), false},
		{"cells", table("lr", cellsOf("a", "b c"), cellsOf("", "")), true},
		{"cells of nothing", table("lr", api.TableRow{Cells: [][]api.Glyph{nil, {}}}), true},
		{"too few cells", table("lr", cellsOf("a", "b"), cellsOf("a")), false},
		{"too many cells", table("lr", cellsOf("a", "b", ""), cellsOf("a", "b")), false},
		{"no cells", table("l", api.TableRow{}), false},
		{"all cells", table(strings.Repeat("c", api.MaxCols), lots(api.MaxCols)), true},
		{"one less", table(strings.Repeat("c", api.MaxCols), lots(api.MaxCols-1)), false},
		{"a rule", table("lr", rule()), true},
		{"rules", table("lr", rule(), cellsOf("a", "b"), rule(), rule()), true},
		{"a rule of none", table("lr", api.TableRow{Rule: true, Cells: [][]api.Glyph{}}), true},
		{"a rule with a cell", table("lr", api.TableRow{Rule: true, Cells: rows("")}), false},
		{"a rule with all cells", table("lr", rule(), api.TableRow{Rule: true, Cells: rows("a", "b")}), false},
		{"blanks at the begin", table("lr", cellsOf(" a", "b")), false},
		{"blanks at the end", table("lr", cellsOf("a", "b"), cellsOf("a", "b ")), false},
		{"blanks inside", table("lr", cellsOf("a", "b  c")), false},
		{"a blank set", table("l", api.TableRow{Cells: [][]api.Glyph{rowSet(bold, "a b")}}), false},
		{"a box", api.Table{Cols: "l", Box: true}, true},
		{"all, in a box", api.Table{Cols: "l", Box: true, All: true}, true},
		{"all, in none", api.Table{Cols: "l", All: true}, false},
	} {
		if got := tree.Right(c.t); got != c.want {
			t.Errorf("Right of %s: %v", c.what, got)
		}
		if got := tree.Mend(c.t); tablesAlike(got, c.t) != c.want || !tree.Right(got) {
			t.Errorf("Mend of %s: %v", c.what, got)
		}
	}
}

func TestMendColumns(t *testing.T) {
	for _, c := range [][2]string{
		{"", "l"}, {"x", "l"}, {"L C R", "l"}, {"\xff\u4e00", "l"},
		{"r", "r"}, {"lcr", "lcr"}, {"rrc", "rrc"}, {"lxr", "lr"}, {" l, c\tr.", "lcr"}, {"\u4e00c\xffr\u0301", "cr"},
		{strings.Repeat("c", api.MaxCols), strings.Repeat("c", api.MaxCols)},
		{strings.Repeat("c", api.MaxCols) + "r", strings.Repeat("c", api.MaxCols)},
		{strings.Repeat("c", api.MaxCols-1) + "rl", strings.Repeat("c", api.MaxCols-1) + "r"},
		{strings.Repeat("x", 5*api.MaxCols) + "lr", "lr"},
		{strings.Repeat("lx", 100), strings.Repeat("l", api.MaxCols)},
	} {
		got := tree.Mend(table(c[0], cellsOf("a")))
		want := cellsOf(append([]string{"a"}, slices.Repeat([]string{""}, len(c[1])-1)...)...)
		if !tablesAlike(got, table(c[1], want)) {
			t.Errorf("Mend of %q: %v", c[0], got)
		}
	}
}

func TestMend(t *testing.T) {
	for _, c := range []struct {
		what    string
		t, want api.Table
	}{
		{"nothing", api.Table{}, table("l")},
		{"too few cells", table("lcr", cellsOf("a"), api.TableRow{}), table("lcr", cellsOf("a", "", ""), cellsOf("", "", ""))},
		{"too many cells", table("lr", cellsOf("a", "b", "c", "d")), table("lr", cellsOf("a", "b"))},
		{"cells of no column", table("", cellsOf("a", "b"), cellsOf()), table("l", cellsOf("a"), cellsOf(""))},
		{"cells of columns that are none", table("xlxr", cellsOf("a", "b", "c")), table("lr", cellsOf("a", "b"))},
		{"cells of columns beyond", table(strings.Repeat("l", 30), lots(30), lots(19)), table(strings.Repeat("l", 20), lots(20), api.TableRow{Cells: append(lots(19).Cells, nil)})},
		{"rules", table("lr", api.TableRow{Rule: true, Cells: rows("a", "b")}, rule()), table("lr", rule(), rule())},
		{"blanks", table("lr", cellsOf("  a  b ", " "), api.TableRow{Cells: [][]api.Glyph{rowSet(bold, "a b")}}),
			table("lr", cellsOf("a b", ""), api.TableRow{Cells: [][]api.Glyph{slices.Concat(rowSet(bold, "a"), row(" "), rowSet(bold, "b")), nil}})},
		{"all, in no box", api.Table{Cols: "l", All: true}, table("l")},
		{"all, in a box", api.Table{Cols: "x", Box: true, All: true}, api.Table{Cols: "l", Box: true, All: true}},
		{"a box", api.Table{Cols: "r", Box: true, Rows: []api.TableRow{cellsOf()}}, api.Table{Cols: "r", Box: true, Rows: []api.TableRow{cellsOf("")}}},
	} {
		got := tree.Mend(c.t)
		if !tablesAlike(got, c.want) {
			t.Errorf("Mend of %s: %v, want %v", c.what, got, c.want)
		}
		if !tree.Right(got) || !tablesAlike(tree.Mend(got), got) {
			t.Errorf("Mend of %s is not right, or does not stay", c.what)
		}
	}
}

func TestSameTable(t *testing.T) {
	made := func() api.Table {
		return api.Table{Cols: "lr", Box: true, Rows: []api.TableRow{cellsOf("a", "bc"), rule(), cellsOf("", "d")}}
	}
	if !tree.SameTable(made(), made()) || !tree.SameTable(api.Table{}, api.Table{Rows: []api.TableRow{}}) {
		t.Error("what is the same is not")
	}
	if !tree.SameTable(table("l", api.TableRow{Cells: [][]api.Glyph{{}}}, api.TableRow{Cells: [][]api.Glyph{}}), table("l", cellsOf(""), cellsOf())) {
		t.Error("what is empty is not the same as what is not there")
	}
	for i, change := range []func(x *api.Table){
		func(x *api.Table) { x.Cols = "lc" },
		func(x *api.Table) { x.Cols = "lrl" },
		func(x *api.Table) { x.Cols = "l" },
		func(x *api.Table) { x.Box = false },
		func(x *api.Table) { x.All = true },
		func(x *api.Table) { x.Rows = x.Rows[:2] },
		func(x *api.Table) { x.Rows = append(x.Rows, api.TableRow{}) },
		func(x *api.Table) { x.Rows = nil },
		func(x *api.Table) { x.Rows[0].Rule = true },
		func(x *api.Table) { x.Rows[1].Rule = false },
		func(x *api.Table) { x.Rows[1].Cells = rows("") },
		func(x *api.Table) { x.Rows[0].Cells = x.Rows[0].Cells[:1] },
		func(x *api.Table) { x.Rows[2].Cells[0] = row(" ") },
		func(x *api.Table) { x.Rows[2].Cells[1][0].R = 'e' },
		func(x *api.Table) { x.Rows[0].Cells[1][1].S = bold },
		func(x *api.Table) { x.Rows[0].Cells[1] = x.Rows[0].Cells[1][:1] },
		func(x *api.Table) { slices.Reverse(x.Rows) },
		func(x *api.Table) { slices.Reverse(x.Rows[0].Cells) },
	} {
		x := made()
		change(&x)
		if tree.SameTable(x, made()) || tree.SameTable(made(), x) {
			t.Errorf("%d: %v is the same", i, x)
		}
		if !tree.SameTable(x, x) {
			t.Errorf("%d: %v is not the same as itself", i, x)
		}
	}
}
