package cells_test

import (
	"fmt"

	"flong/api"
	"flong/cells"
)

// The use that README.md shows.
func Example() {
	l := cells.Of("a\u4e00b", api.Bold)
	fmt.Println(cells.Width(l...))
	front, rest := cells.Cut(l, 2)
	fmt.Printf("%+q %+q\n", cells.Text(front...), cells.Text(rest...))
	l = cells.Fill(l, 6)
	fmt.Printf("%+q\n", cells.Text(l...))
	for _, run := range cells.Runs(l...) {
		fmt.Printf("%d %+q\n", run[0].S, cells.Text(run...))
	}
	fmt.Printf("%+q\n", cells.Text(cells.Trim(l...)...))
	fmt.Printf("%+q\n", cells.Text(cells.Clean(cells.Of("\u0301a\u00a0\n", 0)...)...))
	// Output:
	// 4
	// "a" "\u4e00b"
	// "a\u4e00b  "
	// 1 "a\u4e00b"
	// 0 "  "
	// "a\u4e00b"
	// "a \ufffd"
}
