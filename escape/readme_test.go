package escape_test

import (
	"fmt"

	"flong/escape"
)

// The use that README.md shows.
func Example() {
	tokens, diags := escape.Scan(`\fBa\fP \(em\qb`)
	for _, x := range tokens {
		fmt.Printf("%d %x\n", x.Kind, x.R)
	}
	fmt.Println(diags)
	r, ok := escape.Name("bu")
	fmt.Printf("%x %v\n", r, ok)
	n, ok := escape.Font("BI")
	fmt.Println(n, ok)
	fmt.Println(escape.Quote(`a\b`))
	tokens, _ = escape.Scan(escape.Quote(`\`))
	fmt.Printf("%c\n", tokens[0].R)
	// Output:
	// 3 1
	// 1 61
	// 3 4
	// 2 0
	// 1 2014
	// 1 62
	// [{1 0 13}]
	// 2022 true
	// 3 true
	// a\eb
	// \
}
