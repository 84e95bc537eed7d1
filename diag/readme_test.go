package diag_test

import (
	"fmt"

	"flong/api"
	"flong/diag"
)

// The use that README.md shows.
func Example() {
	e := diag.Move(diag.New(api.BadArgs, 3, 4), 2, 0)
	e = diag.Join(e, diag.New(api.NoTitle, 1, 0))
	fmt.Println(diag.Kind(e))
	fmt.Println(diag.Place(e))
	fmt.Println(diag.Is(e, api.NoTitle))
	fmt.Println(diag.Sorted(diag.All(e)...))
	fmt.Println(e.Error())
	// Output:
	// 5
	// 5 4
	// true
	// [{12 1 0} {5 5 4}]
	// kind 5, line 5, column 4; kind 12, line 1
}
