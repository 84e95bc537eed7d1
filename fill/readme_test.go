package fill_test

import (
	"fmt"

	"flong/api"
	"flong/cells"
	"flong/fill"
)

// show prints each line behind where it begins, and whether it is forced.
func show(l []api.Line) {
	for _, x := range l {
		fmt.Printf("%d %q %t\n", x.In, cells.Text(x.G...), x.Forced)
	}
}

// The use that README.md shows.
func Example() {
	text := func(s string) []api.Glyph { return cells.Of(s, 0) }
	for _, l := range fill.Text(4, text("aa b  cc")...) {
		fmt.Printf("%q\n", cells.Text(l...))
	}
	fmt.Println(len(fill.Words(text("a\u00a0b c")...)))
	fmt.Println(fill.Least(text("aa b  cc")...), fill.Most(text("aa b  cc")...))
	show(fill.Into(3, 8, text("aa bb cccccc")...))
	show(fill.Tagged(text("-a"), 2, 4, 10, text("all of it")...))
	show(fill.Tagged(text("--all"), 2, 4, 10, text("it")...))
	// Output:
	// "aa b"
	// "cc"
	// 2
	// 2 7
	// 3 "aa bb" false
	// 3 "cccccc" true
	// 2 "-a  all" false
	// 6 "of" false
	// 6 "it" false
	// 2 "--all" false
	// 6 "it" false
}
