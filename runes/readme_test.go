package runes_test

import (
	"fmt"

	"flong/runes"
)

// The use that README.md shows.
func Example() {
	fmt.Printf("%x\n", runes.Decode([]byte("a\xff\u00e9")))
	fmt.Println(runes.Right([]byte("a\xff\u00e9")))
	fmt.Printf("% x\n", runes.Encode(0xe9, -1))
	fmt.Println(runes.Width(0x4e00), runes.Width('a'), runes.Width(0x301))
	fmt.Println(runes.Sum('a', 0x301, 0x4e00))
	fmt.Printf("%x\n", runes.Safe('\n'))
	// Output:
	// [61 fffd e9]
	// false
	// c3 a9 ef bf bd
	// 2 1 0
	// 3
	// fffd
}
