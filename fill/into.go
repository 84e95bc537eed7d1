package fill

import (
	"slices"

	"flong/api"
	"flong/cells"
)

// Into is the words of l in lines that begin at in, and should end at width.
func Into(in int, width int, l ...api.Glyph) []api.Line {
	in, width = clip(in), clip(width)
	var lines []api.Line
	for _, g := range Text(left(in, width), l...) {
		lines = append(lines, put(in, width, g))
	}
	return lines
}

// Tagged is the words of l in lines that begin room cells behind in, and those of tag at in: ahead of the first line, if room is wider than they are, or in a line of their own.
func Tagged(tag []api.Glyph, in int, room int, width int, l ...api.Glyph) []api.Line {
	in, room, width = clip(in), clip(room), clip(width)
	lines := Into(in+room, width, l...)
	first := put(in, width, whole(tag))
	switch {
	case len(first.G) == 0:
		return lines
	case len(lines) > 0 && cells.Width(first.G...)+1 <= room:
		first.G = slices.Concat(cells.Fill(first.G, room), lines[0].G)
		first.Forced = lines[0].Forced
		lines = lines[1:]
		fallthrough
	default:
		return slices.Insert(lines, 0, first)
	}
}

// put is l as a line that begins at in, and should end at width.
func put(in int, width int, l []api.Glyph) api.Line {
	return api.Line{In: in, G: l, Forced: Forced(left(in, width), l)}
}

// left is the room behind in. There is always some, so that text has a line to stand in.
func left(in int, width int) int {
	return max(width-in, 1)
}

// clip is n, or the nearest that a line's cells may be.
func clip(n int) int {
	return min(max(n, 0), api.MaxCells)
}
