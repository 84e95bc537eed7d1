package tbl_test

import (
	"fmt"

	"flong/api"
	"flong/cells"
	"flong/tbl"
)

// The use that README.md shows.
func Example() {
	t, diags := tbl.Parse(10, "box;", "l r.", "a\tb c", "_", "d\tT{", "e", "f\\q", "T}\tg")
	fmt.Println(t.Cols, t.Box, t.All, len(t.Rows), diags)
	for _, r := range t.Rows {
		var l []string
		for _, cell := range r.Cells {
			l = append(l, cells.Text(cell...))
		}
		fmt.Printf("%v %q\n", r.Rule, l)
	}
	fmt.Printf("%q\n", tbl.Print(t))
	t.Rows = []api.TableRow{{Cells: [][]api.Glyph{cells.Of("_", 0)}}}
	fmt.Printf("%q\n", tbl.Print(t))
	fmt.Println(tbl.Look("box, allbox;"))
	fmt.Println(tbl.Columns("Lb C,x."))
	fmt.Printf("%q\n", tbl.Cut("a\t\tb"))
	// Output:
	// lr true false 3 [{1 16 2} {11 14 0}]
	// false ["a" "b c"]
	// true []
	// false ["d" "e f"]
	// ["box;" "l r." "a\tb c" "_" "d\te f"]
	// ["box;" "l r." "\\&_\t"]
	// true true true
	// lcl false
	// ["a" "" "b"]
}
