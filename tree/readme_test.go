package tree_test

import (
	"fmt"

	"flong/api"
	"flong/cells"
	"flong/tree"
)

// The use that README.md shows.
func Example() {
	text := func(s string) []api.Glyph { return cells.Of(s, 0) }
	inner := api.Node{Kind: api.Section, Line: 3, Text: text("c"), Kids: []api.Node{{Kind: api.Para, Line: 4, Text: text("d")}}}
	outer := api.Node{Kind: api.Section, Line: 1, Text: text(" a  b"), Kids: []api.Node{inner, {Kind: api.Indent, Line: 5}}}
	d := api.Doc{Name: "x", Kids: []api.Node{outer}}
	fmt.Println(tree.Check(d) == api.ErrArg)
	d = tree.Tidy(d)
	for _, x := range append(d.Kids, d.Kids[0].Kids...) {
		fmt.Printf("%d %d %q\n", x.Kind, x.Line, cells.Text(x.Text...))
	}
	fmt.Println(tree.Check(d) == api.OK, tree.Count(d.Kids...), tree.Deep(d.Kids...))
	fmt.Println(cells.Text(tree.Leaves(d.Kids...)...))
	for _, h := range tree.Heads(d.Kids...) {
		fmt.Printf("%d %d %q\n", h.Level, h.Line, cells.Text(h.Text...))
	}
	t := tree.Mend(api.Table{Cols: "l?r", Rows: []api.TableRow{{Cells: [][]api.Glyph{text(" a ")}}}})
	fmt.Printf("%s %d %q %v\n", t.Cols, len(t.Rows[0].Cells), cells.Text(t.Rows[0].Cells[0]...), tree.Right(t))
	// Output:
	// true
	// 1 1 "a b"
	// 3 3 "c"
	// 3 4 "d"
	// true 3 2
	// abcd
	// 1 1 "a b"
	// lr 2 "a" true
}
