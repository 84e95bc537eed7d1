package mdoc_test

import (
	"fmt"

	"flong/api"
	"flong/cells"
	"flong/lines"
	"flong/mdoc"
)

// The use that README.md shows.
func Example() {
	d, diags := mdoc.Read(".Dt LS 1\n.Sh NAME\n.Nm ls\n.Op Fl a Ar x ,\n.Bl -tag -width 4\n.It Fl a\nall of\n.Nm .\n.El\n.It\n.Bd -literal\n  ls  \\fI-a\n.Pp\n")
	fmt.Printf("%q %q %q %q\n", d.Name, d.Part, d.Date, d.Source)
	var show func(ahead string, l []api.Node)
	show = func(ahead string, l []api.Node) {
		for _, x := range l {
			fmt.Printf("%s%d at %d, %d: %q\n", ahead, x.Kind, x.Line, x.N, cells.Text(x.Text...))
			for _, row := range x.Rows {
				fmt.Printf("%s%q\n", ahead, cells.Text(row...))
			}
			show(ahead+"  ", x.Kids)
		}
	}
	show("", d.Kids)
	fmt.Println(diags)
	l, name, diags := mdoc.Pieces("", "Nm", "ls", "Op", "Fl", "a", "Ar", "x", ",")
	fmt.Println(name, diags)
	for _, run := range cells.Runs(mdoc.Join(l...)...) {
		fmt.Printf("%q %d\n", cells.Text(run...), run[0].S)
	}
	fmt.Println(mdoc.Callable("Op"))
	d, diags = mdoc.Any(".TH a 1\n.SH b\n")
	rows, _ := lines.Read(".TH a 1\n.SH b\n")
	fmt.Println(d.Name, len(d.Kids), diags, mdoc.Kind(rows...))
	// Output:
	// "LS" "1" "" ""
	// 1 at 2, 0: "NAME"
	//   3 at 3, 0: "ls [-a x,]"
	//   5 at 5, 0: ""
	//     4 at 6, 4: "-a"
	//       3 at 7, 0: "all of ls."
	//   6 at 11, 0: ""
	//   "  ls  -a"
	// [{13 10 0} {13 13 0} {7 11 0}]
	// ls []
	// "ls" 1
	// " [" 0
	// "-a" 1
	// " " 0
	// "x" 2
	// ",]" 0
	// true
	// a 1 [] 1
}
