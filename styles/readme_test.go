package styles_test

import (
	"fmt"
	"strings"

	"flong/api"
	"flong/cells"
	"flong/styles"
)

// show prints glyphs as runs of those that are set alike.
func show(l []api.Glyph) {
	var runs []string
	for _, run := range cells.Runs(l...) {
		runs = append(runs, fmt.Sprintf("%d %q", run[0].S, cells.Text(run...)))
	}
	fmt.Println(strings.Join(runs, "; "))
}

// The use that README.md shows.
func Example() {
	l, f, diags := styles.Line(api.Face{}, `a\fBb \fIc\fPd\q`)
	show(l)
	fmt.Println(f, diags)
	fmt.Println(styles.Turn(f, 4))
	l, _ = styles.Words(api.Bold, "a", "", `b\fRc`)
	show(l)
	m, _ := styles.Turns(api.Bold, 0, "a", "b", "c")
	show(m)
	show(styles.Join(l, m))
	show(styles.Squeeze(cells.Of("  a   b ", api.Bold)...))
	// Output:
	// 0 "a"; 1 "b"; 0 " "; 2 "c"; 1 "d"
	// {1 2} [{1 0 15}]
	// {2 1}
	// 1 "a"; 0 " "; 1 "b"; 0 "c"
	// 1 "a"; 0 "b"; 1 "c"
	// 1 "a"; 0 " "; 1 "b"; 0 "c "; 1 "a"; 0 "b"; 1 "c"
	// 1 "a"; 0 " "; 1 "b"
}
