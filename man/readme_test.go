package man_test

import (
	"fmt"

	"flong/api"
	"flong/cells"
	"flong/man"
)

// The use that README.md shows.
func Example() {
	d, diags := man.Read(".TH ls 1 May\n.SH NAME\nls \\- list\n.TP 4n\n.B \\-a\nall\n.TP\n.SS\n.RE\n.EX\n  ls  \\fI-a\n.zz\n.EE\n")
	fmt.Printf("%q %q %q %q\n", d.Name, d.Part, d.Date, d.Source)
	var show func(ahead string, l []api.Node)
	show = func(ahead string, l []api.Node) {
		for _, x := range l {
			fmt.Printf("%s%d at %d, %d: %q\n", ahead, x.Kind, x.Line, x.N, cells.Text(x.Text...))
			for _, row := range x.Rows {
				fmt.Printf("%s%q\n", ahead, cells.Text(row...))
			}
			show(ahead+"  ", x.Kids)
		}
	}
	show("", d.Kids)
	fmt.Println(diags)
	l, diags, ok := man.Inline(api.Row{Line: 3, Macro: "BR", Args: []string{"ls", "(1)", `\q`}})
	fmt.Println(cells.Text(l...), l[0].S, l[2].S, diags, ok)
	fmt.Println(man.Number("4n", 7))
	fmt.Println(man.Number("999", 7))
	fmt.Println(man.Number("4m", 7))
	// Output:
	// "ls" "1" "May" ""
	// 1 at 2, 0: "NAME"
	//   3 at 3, 0: "ls - list"
	//   4 at 4, 4: "-a"
	//     3 at 6, 0: "all"
	//   6 at 10, 0: ""
	//   "  ls  -a"
	// [{5 7 0} {5 8 0} {6 9 0} {13 12 0}]
	// ls(1) 1 0 [{1 3 1}] true
	// 4 true
	// 200 true
	// 7 false
}
