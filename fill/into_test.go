package fill_test

import (
	"math"
	"slices"
	"testing"

	"flong/api"
	"flong/fill"
)

func line(in int, s string) api.Line {
	return api.Line{In: in, G: row(s)}
}

// forced is a line that is wider than its room.
func forced(in int, s string) api.Line {
	return api.Line{In: in, G: row(s), Forced: true}
}

func list(l ...api.Line) []api.Line {
	return l
}

func equalLines(t *testing.T, what string, got, want []api.Line) {
	t.Helper()
	if !fill.Same(got, want) {
		t.Errorf("%s: %v, want %v", what, got, want)
	}
}

func TestInto(t *testing.T) {
	for _, c := range []struct {
		in, width int
		s         string
		want      []api.Line
	}{
		{3, 8, "", nil},
		{3, 8, "  ", nil},
		{3, 8, "aa bb cccccc", list(line(3, "aa bb"), forced(3, "cccccc"))},
		{3, 7, "aa bb cccc", list(line(3, "aa"), line(3, "bb"), line(3, "cccc"))},
		{0, 8, "aaa bbbb c", list(line(0, "aaa bbbb"), line(0, "c"))},
		{3, 8, "aaaaa", list(line(3, "aaaaa"))},
		{3, 7, "aaaaa", list(forced(3, "aaaaa"))},
		{3, 6, wide + " " + wide + "a " + wide + wide, list(line(3, wide), line(3, wide+"a"), forced(3, wide+wide))},
		{3, 6, "a" + hard + "b\tc", list(forced(3, "a b"+odd+"c"))},
	} {
		equalLines(t, c.s, fill.Into(c.in, c.width, row(c.s)...), c.want)
	}
	equalLines(t, "no glyphs", fill.Into(1, 2), nil)
}

// However far in, there is room for one cell.
func TestIntoNoRoom(t *testing.T) {
	for _, c := range []struct{ in, width int }{{0, 0}, {0, 1}, {4, 4}, {4, 5}, {5, 4}, {99, 4}, {widest, widest}, {widest, 0}} {
		want := list(line(c.in, "a"), forced(c.in, "bc"), line(c.in, "d"+accent), forced(c.in, wide))
		equalLines(t, "no room", fill.Into(c.in, c.width, row("a bc d"+accent+" "+wide)...), want)
	}
}

func TestIntoAnyPlace(t *testing.T) {
	for _, in := range []int{math.MinInt, -1, 0} {
		equalLines(t, "below 0", fill.Into(in, 3, row("a b c")...), list(line(0, "a b"), line(0, "c")))
	}
	for _, width := range []int{math.MinInt, -1, 0} {
		equalLines(t, "a width below 0", fill.Into(2, width, row("a bc")...), list(line(2, "a"), forced(2, "bc")))
		equalLines(t, "both below 0", fill.Into(width, width, row("ab")...), list(forced(0, "ab")))
	}
	for _, n := range []int{widest, widest + 1, 1 << 32, math.MaxInt} {
		equalLines(t, "far in", fill.Into(n, 9, row("a bc")...), list(line(widest, "a"), forced(widest, "bc")))
		equalLines(t, "far in, and wide", fill.Into(n, n, row("a bc")...), list(line(widest, "a"), forced(widest, "bc")))
		equalLines(t, "one cell in less", fill.Into(widest-1, n, row("a b")...), list(line(widest-1, "a"), line(widest-1, "b")))
		equalLines(t, "three cells", fill.Into(widest-3, n, row("a b c")...), list(line(widest-3, "a b"), line(widest-3, "c")))
	}
}

// A width above what a line may have is no room, either.
func TestIntoWidest(t *testing.T) {
	long := slices.Repeat(row("a"), widest-2)
	text := slices.Concat(long, row(" b c"))
	for _, width := range []int{widest, widest + 1, widest + 2, math.MaxInt} {
		equalLines(t, "as wide as may be", fill.Into(0, width, text...), list(api.Line{G: slices.Concat(long, row(" b"))}, line(0, "c")))
		equalLines(t, "one more", fill.Into(-1, width, slices.Repeat(row("a"), widest+1)...), list(api.Line{G: slices.Repeat(row("a"), widest+1), Forced: true}))
	}
}

func TestTagged(t *testing.T) {
	for _, c := range []struct {
		tag             string
		in, room, width int
		s               string
		want            []api.Line
	}{
		{"", 1, 3, 9, "", nil},
		{" ", 1, 3, 9, " ", nil},
		{"", 1, 3, 9, "a", list(line(4, "a"))},
		{"  ", 1, 3, 7, "a bb", list(line(4, "a"), line(4, "bb"))},
		{accent, 1, 3, 9, "a", list(line(4, "a"))},
		{" t  u ", 2, 5, 12, "aaa bbb", list(line(2, "t u  aaa"), line(7, "bbb"))},
		{"t", 2, 5, 12, "aaa bbb c", list(line(2, "t    aaa"), line(7, "bbb c"))},
		{"tt", 2, 3, 9, "a", list(line(2, "tt a"))},
		{"ttt", 2, 3, 9, "a b cc", list(line(2, "ttt"), line(5, "a b"), line(5, "cc"))},
		{"tttt", 2, 3, 9, "a", list(line(2, "tttt"), line(5, "a"))},
		{wide, 0, 3, 9, "a", list(line(0, wide+" a"))},
		{wide + wide, 0, 4, 9, "a", list(line(0, wide+wide), line(4, "a"))},
		{"t" + accent, 0, 2, 9, "a", list(line(0, "t"+accent+" a"))},
		{"t" + hard + hard + "u", 1, 5, 9, "a", list(line(1, "t  u a"))},
		{hard, 1, 2, 9, "a", list(line(1, "  a"))},
		{"\t\n", 0, 3, 9, "\x1b", list(line(0, odd+odd+" "+odd))},
		{"t", 0, 2, 4, "aaa b", list(forced(0, "t aaa"), line(2, "b"))},
		{"t", 0, 2, 4, "b aaa", list(line(0, "t b"), forced(2, "aaa"))},
		{"tt", 0, 2, 4, "aaa", list(line(0, "tt"), forced(2, "aaa"))},
		{"t", 4, 9, 6, "a bb", list(line(4, "t        a"), forced(13, "bb"))},
	} {
		equalLines(t, c.tag+": "+c.s, fill.Tagged(row(c.tag), c.in, c.room, c.width, row(c.s)...), c.want)
	}
	equalLines(t, "no glyphs", fill.Tagged(nil, 1, 2, 3), nil)
}

// Without text the tag stands in a line of its own, whatever room it has.
func TestTaggedWithoutText(t *testing.T) {
	for _, room := range []int{math.MinInt, 0, 1, 2, 5, math.MaxInt} {
		equalLines(t, "no text", fill.Tagged(row("t"), 1, room, 9), list(line(1, "t")))
		equalLines(t, "no words", fill.Tagged(row("t u"), 1, room, 9, row("  ")...), list(line(1, "t u")))
	}
}

// A tag in a line of its own is forced by the room behind in, not by its own room.
func TestTaggedForced(t *testing.T) {
	equalLines(t, "room", fill.Tagged(row("tt uu"), 2, 3, 7, row("a b c")...), list(line(2, "tt uu"), line(5, "a"), line(5, "b"), line(5, "c")))
	equalLines(t, "none", fill.Tagged(row("tt uuu"), 2, 3, 7, row("a")...), list(forced(2, "tt uuu"), line(5, "a")))
	for _, in := range []int{4, 5, 99} {
		equalLines(t, "one cell", fill.Tagged(row("t"), in, 1, 5, row("a")...), list(line(in, "t"), line(in+1, "a")))
		equalLines(t, "no more", fill.Tagged(row("tt"), in, 1, 5, row("a")...), list(forced(in, "tt"), line(in+1, "a")))
	}
	equalLines(t, "no room at all", fill.Tagged(row("tt"), 3, 9, 3, row("a")...), list(line(3, "tt       a")))
	equalLines(t, "the text is", fill.Tagged(row("tt"), 3, 9, 3, row("ab c")...), list(forced(3, "tt       ab"), line(12, "c")))
}

func TestTaggedAnyPlace(t *testing.T) {
	for _, n := range []int{math.MinInt, -1, 0} {
		equalLines(t, "in below 0", fill.Tagged(row("t"), n, 3, 6, row("a b c")...), list(line(0, "t  a b"), line(3, "c")))
		equalLines(t, "no room", fill.Tagged(row("t"), 2, n, 5, row("a b c")...), list(line(2, "t"), line(2, "a b"), line(2, "c")))
		equalLines(t, "no width", fill.Tagged(row("tt"), 2, 2, n, row("a bc")...), list(forced(2, "tt"), line(4, "a"), forced(4, "bc")))
		equalLines(t, "all of it", fill.Tagged(row("t u"), n, n, n, row("a bc")...), list(forced(0, "t u"), line(0, "a"), forced(0, "bc")))
	}
	for _, n := range []int{widest, widest + 1, 1 << 40, math.MaxInt} {
		far := api.Line{In: 2, G: slices.Concat(row("t"), slices.Repeat(row(" "), widest-1), row("a"))}
		equalLines(t, "all the room", fill.Tagged(row("t"), 2, n, 9, row("a bc")...), list(far, forced(widest, "bc")))
		far.In = widest
		equalLines(t, "all of it", fill.Tagged(row("t"), n, n, n, row("a bc")...), list(far, forced(widest, "bc")))
		equalLines(t, "far in", fill.Tagged(row("t"), n, 2, n, row("a bc")...), list(line(widest, "t a"), forced(widest, "bc")))
		equalLines(t, "far in, a line of its own", fill.Tagged(row("tt"), n, 2, n, row("a")...), list(forced(widest, "tt"), line(widest, "a")))
		equalLines(t, "wide", fill.Tagged(row("t"), widest-6, 3, n, row("a b c")...), list(line(widest-6, "t  a b"), line(widest-3, "c")))
	}
}

// As many cells as a room may have are too few for a tag that has as many.
func TestTaggedWidest(t *testing.T) {
	tag := slices.Repeat(row("t"), widest-1)
	first := api.Line{G: slices.Concat(tag, row(" a"))}
	equalLines(t, "room", fill.Tagged(tag, 0, math.MaxInt, widest, row("a")...), list(first))
	tag = append(tag, row("t")...)
	equalLines(t, "none", fill.Tagged(tag, 0, math.MaxInt, math.MaxInt, row("a")...), list(api.Line{G: tag}, line(widest, "a")))
	tag = append(tag, row("t")...)
	equalLines(t, "too wide", fill.Tagged(tag, 0, math.MaxInt, math.MaxInt, row("a")...), list(api.Line{G: tag, Forced: true}, line(widest, "a")))
}

// What fills a tag up is set 0; tag and text are set as they were.
func TestTaggedIsSet(t *testing.T) {
	tag, text := slices.Concat(bold("t"), glyphs(' ', 2), glyphs('u', 255)), glyphs('a', 3, 4)
	want := slices.Concat(bold("t"), row(" "), glyphs('u', 3), row("  "), glyphs('a', 3, 0))
	equalLines(t, "any sets", fill.Tagged(tag, 1, 5, 9, text...), list(api.Line{In: 1, G: want}))
}
