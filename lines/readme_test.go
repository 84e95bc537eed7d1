package lines_test

import (
	"fmt"

	"flong/api"
	"flong/lines"
)

// The use that README.md shows.
func Example() {
	rows, diags := lines.Read(".B \"a b\" c \\\" bold\nd \\\ne\n.I \"f\n")
	for _, r := range rows {
		fmt.Printf("%d %q %q %q\n", r.Line, r.Macro, r.Args, r.Text)
	}
	fmt.Println(diags)
	args, ok := lines.Args(`a\ b "c ""d"""`)
	fmt.Printf("%q %v\n", args, ok)
	fmt.Println(lines.Quoted(`c "d"`))
	fmt.Println(lines.Check(api.Row{Text: ".a"}))
	fmt.Printf("%q\n", lines.Write(api.Row{Macro: "B", Args: []string{"a b"}}, api.Row{Text: "c"}))
	// Output:
	// 1 "B" ["a b" "c"] ""
	// 2 "" [] "d e"
	// 4 "I" ["f"] ""
	// [{5 4 0}]
	// ["a\\ b" "c \"d\""] true
	// "c ""d"""
	// 2
	// ".B \"a b\"\nc\n"
}
