package runes

// none are the runes of no cell, twice those of two: from, and to. Both rise, for the search ends at the first one that doesn't end below the rune.
var none = [...][2]rune{
	{0x300, 0x36f},
	{0x483, 0x489},
	{0x591, 0x5bd},
	{0x610, 0x61a},
	{0x64b, 0x65f},
	{0x1ab0, 0x1aff},
	{0x1dc0, 0x1dff},
	{0x200b, 0x200f},
	{0x20d0, 0x20ff},
	{0xfe00, 0xfe0f},
	{0xfe20, 0xfe2f},
	{0xe0100, 0xe01ef},
}

var twice = [...][2]rune{
	{0x1100, 0x115f},
	{0x2329, 0x232a},
	{0x2e80, 0x303e},
	{0x3041, 0x33ff},
	{0x3400, 0x4dbf},
	{0x4e00, 0xa4cf},
	{0xa960, 0xa97f},
	{0xac00, 0xd7a3},
	{0xf900, 0xfaff},
	{0xfe30, 0xfe6f},
	{0xff00, 0xff60},
	{0xffe0, 0xffe6},
	{0x1f300, 0x1f64f},
	{0x1f900, 0x1f9ff},
	{0x20000, 0x2fffd},
	{0x30000, 0x3fffd},
}

// Control tells whether r is one of those that do something, and show nothing: lines' ends and breaks, too.
func Control(r rune) bool {
	switch {
	case r < 0:
		return false
	case r < 0x20, 0x7f <= r && r <= 0x9f:
		return true
	}
	return r == 0x2028 || r == 0x2029
}

// Width is how many cells r has: none, one, or two.
func Width(r rune) int {
	n := 0
	switch {
	case !Valid(r), Control(r), hasNone(r):
		return 0
	case hasTwo(r):
		n++
		fallthrough
	default:
		n++
	}
	return n
}

// Sum is the width of all of l.
func Sum(l ...rune) int {
	n := 0
	for _, r := range l {
		n += Width(r)
	}
	return n
}

func hasNone(r rune) bool {
	for i := range none {
		if r <= none[i][1] {
			return none[i][0] <= r
		}
	}
	return false
}

func hasTwo(r rune) bool {
	for i := range twice {
		if r <= twice[i][1] {
			return twice[i][0] <= r
		}
	}
	return false
}
