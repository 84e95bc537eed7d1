package build_test

import (
	"fmt"

	"flong/api"
	"flong/build"
	"flong/cells"
	"flong/tree"
)

// The use that README.md shows.
func Example() {
	text := func(s string) []api.Glyph { return cells.Of(s, 0) }
	b := build.New()
	b.Title("ls", "1", "May", "x")
	b.Open(api.Node{Kind: api.Section, Line: 1, Text: text("x")})
	b.Text(text("a"), 2)
	b.Text(text("b"), 3)
	b.Open(api.Node{Kind: api.Tag, Line: 4, Text: text("-c")})
	b.Text(text("d"), 5)
	fmt.Println(b.Depth(), b.Inside(api.Tag), b.Close(api.Indent))
	b.Shut(api.Tag, api.Indent)
	b.Add(api.Node{Kind: api.Verb, Line: 6, Rows: [][]api.Glyph{text("  e")}})
	d := b.Doc()
	for _, x := range d.Kids[0].Kids {
		fmt.Printf("%d %d %q %d %d\n", x.Kind, x.Line, cells.Text(x.Text...), len(x.Kids), len(x.Rows))
	}
	fmt.Println(d.Name, len(d.Kids), cells.Text(tree.Leaves(d.Kids...)...))
	b.Text(text("f"), 7)
	fmt.Println(b.Depth(), len(b.Doc().Kids[0].Kids), tree.Check(b.Doc()) == api.OK)
	// Output:
	// 2 true false
	// 3 2 "a b" 0 0
	// 4 4 "-c" 1 0
	// 6 6 "" 0 1
	// ls 1 xab-cde
	// 1 4 true
}
