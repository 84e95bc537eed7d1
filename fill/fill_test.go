package fill_test

import (
	"math"
	"slices"
	"testing"

	"flong/api"
	"flong/cells"
	"flong/fill"
)

const (
	wide   = "\u4e00" // of two cells
	accent = "\u0301" // of none
	hard   = "\u00a0"
	odd    = "\ufffd"
	widest = api.MaxCells
)

func row(s string) []api.Glyph {
	return cells.Of(s, 0)
}

func bold(s string) []api.Glyph {
	return cells.Of(s, api.Bold)
}

// glyphs is the same rune set in each of these ways.
func glyphs(r rune, sets ...uint8) []api.Glyph {
	var l []api.Glyph
	for _, set := range sets {
		l = append(l, api.Glyph{R: r, S: set})
	}
	return l
}

func rows(l ...string) [][]api.Glyph {
	var out [][]api.Glyph
	for _, s := range l {
		out = append(out, row(s))
	}
	return out
}

func sameRows(a, b [][]api.Glyph) bool {
	return slices.EqualFunc(a, b, slices.Equal[[]api.Glyph])
}

func equalRows(t *testing.T, what string, got, want [][]api.Glyph) {
	t.Helper()
	if !sameRows(got, want) {
		t.Errorf("%s: %v, want %v", what, got, want)
	}
}

func TestWords(t *testing.T) {
	for _, c := range []struct {
		s    string
		want []string
	}{
		{"", nil},
		{" ", nil},
		{"    ", nil},
		{"a", []string{"a"}},
		{"aa b cc", []string{"aa", "b", "cc"}},
		{" aa  b   cc    ", []string{"aa", "b", "cc"}},
		{wide + " a" + accent, []string{wide, "a" + accent}},
		{"a" + hard + "b c", []string{"a b", "c"}},
		{hard, []string{" "}},
		{"a " + hard + hard + " b", []string{"a", "  ", "b"}},
		{hard + "a" + hard, []string{" a "}},
		{"a\tb\nc\rd\x00 \x1b \u2028", []string{"a" + odd + "b" + odd + "c" + odd + "d" + odd, odd, odd}},
		{"a\u2003b\u3000c\u200bd", []string{"a\u2003b\u3000c\u200bd"}},
		{accent, nil},
		{"a " + accent + accent + " b", []string{"a", "b"}},
		{"a " + accent + "b", []string{"a", "b"}},
		{"\u200b" + hard + accent, []string{" " + accent}},
	} {
		equalRows(t, c.s, fill.Words(row(c.s)...), rows(c.want...))
	}
	equalRows(t, "no glyphs", fill.Words(), nil)
}

func TestWordsAreSet(t *testing.T) {
	l := slices.Concat(bold("a"), glyphs(' ', 1, 2, 255), row("b"), glyphs('c', 2, 3), row(" "), glyphs('d', 4, 5, 128, 255))
	want := [][]api.Glyph{bold("a"), slices.Concat(row("b"), glyphs('c', 2, 3)), glyphs('d', 0, 1, 0, 3)}
	equalRows(t, "any sets", fill.Words(l...), want)
	equalRows(t, "hard blanks", fill.Words(glyphs(api.Hard, 0, 1, 2, 7)...), [][]api.Glyph{glyphs(' ', 0, 1, 2, 3)})
}

func TestWordsOfWhatMayNotBe(t *testing.T) {
	l := slices.Concat(glyphs(-1, 1), glyphs(0xd800, 0), row(" "), glyphs(0x110000, 2), glyphs(math.MinInt32, 0), glyphs(math.MaxInt32, 0))
	want := [][]api.Glyph{glyphs(api.Odd, 1, 0), glyphs(api.Odd, 2, 0, 0)}
	equalRows(t, "no runes", fill.Words(l...), want)
}

func TestLines(t *testing.T) {
	all := rows("aa", "b", "cc")
	for _, c := range []struct {
		width int
		want  []string
	}{
		{math.MinInt, []string{"aa", "b", "cc"}},
		{-1, []string{"aa", "b", "cc"}},
		{0, []string{"aa", "b", "cc"}},
		{1, []string{"aa", "b", "cc"}},
		{3, []string{"aa", "b", "cc"}},
		{4, []string{"aa b", "cc"}},
		{6, []string{"aa b", "cc"}},
		{7, []string{"aa b cc"}},
		{widest, []string{"aa b cc"}},
		{math.MaxInt, []string{"aa b cc"}},
	} {
		equalRows(t, "in any width", fill.Lines(c.width, all...), rows(c.want...))
	}
	for _, width := range []int{math.MinInt, -1, 0, 1, math.MaxInt} {
		equalRows(t, "no words", fill.Lines(width), nil)
		equalRows(t, "words without a glyph", fill.Lines(width, nil, []api.Glyph{}), nil)
		equalRows(t, "one word", fill.Lines(width, row("ab")), rows("ab"))
	}
}

// First come first: a line that has no room for a word has none for one behind it, either.
func TestLinesInOrder(t *testing.T) {
	equalRows(t, "a wide one between", fill.Lines(3, rows("a", "bbb", "c")...), rows("a", "bbb", "c"))
	equalRows(t, "one too wide between", fill.Lines(3, rows("a", "bbbb", "c", "d")...), rows("a", "bbbb", "c d"))
	equalRows(t, "one too wide ahead", fill.Lines(3, rows("bbbb", "c")...), rows("bbbb", "c"))
	equalRows(t, "runes of two cells", fill.Lines(5, rows(wide, wide, wide)...), rows(wide+" "+wide, wide))
	equalRows(t, "runes of no cell", fill.Lines(3, rows("a"+accent, "b"+accent, "c")...), rows("a"+accent+" b"+accent, "c"))
}

// Words come in as they are: neither parted nor made to be written.
func TestLinesOfAnyWords(t *testing.T) {
	equalRows(t, "blanks", fill.Lines(4, rows(" ", "  ", " a ")...), rows("    ", " a "))
	equalRows(t, "hard blanks, controls", fill.Lines(5, rows(hard, "\n", "b")...), rows(hard+" \n b"))
	equalRows(t, "words without a glyph", fill.Lines(3, nil, row("a"), nil, row("b"), nil), rows("a b"))
	equalRows(t, "words of no width", fill.Lines(2, rows(accent, accent, "a", accent)...), rows(accent+" "+accent, "a "+accent))
	equalRows(t, "no room for a blank", fill.Lines(0, rows(accent, accent)...), rows(accent, accent))
	equalRows(t, "room for a blank", fill.Lines(1, rows(accent, accent, accent)...), rows(accent+" "+accent, accent))
	equalRows(t, "a word of no width behind", fill.Lines(1, rows("a", accent)...), rows("a", accent))
}

// What stands between words is set 0, however they are set.
func TestLinesAreSet(t *testing.T) {
	a, b := glyphs('a', 255), glyphs('b', 3)
	equalRows(t, "any sets", fill.Lines(3, a, b, bold("c")), [][]api.Glyph{slices.Concat(a, row(" "), b), bold("c")})
}

// A line's room is clipped nowhere here.
func TestLinesOfAnyRoom(t *testing.T) {
	long := slices.Repeat(row("a"), widest)
	equalRows(t, "beyond a line's cells", fill.Lines(widest+2, long, row("b")), [][]api.Glyph{slices.Concat(long, row(" b"))})
	equalRows(t, "one less", fill.Lines(widest+1, long, row("b")), [][]api.Glyph{long, row("b")})
}

func TestText(t *testing.T) {
	for _, c := range []struct {
		s     string
		width int
		want  []string
	}{
		{"", 4, nil},
		{"   ", 4, nil},
		{"aa b cc", 4, []string{"aa b", "cc"}},
		{"  aa   b cc ", 4, []string{"aa b", "cc"}},
		{"aa b cc", 3, []string{"aa", "b", "cc"}},
		{"aa b cc", -1, []string{"aa", "b", "cc"}},
		{"aa b cc", math.MinInt, []string{"aa", "b", "cc"}},
		{"aa b cc", math.MaxInt, []string{"aa b cc"}},
		{"a" + hard + "b c", 4, []string{"a b", "c"}},
		{"a" + hard + "b c", 5, []string{"a b c"}},
		{accent + "a " + accent + " b", 3, []string{"a b"}},
		{wide + wide + " a", 6, []string{wide + wide + " a"}},
		{wide + wide + " a", 5, []string{wide + wide, "a"}},
		{"abcdef g", 3, []string{"abcdef", "g"}},
	} {
		equalRows(t, c.s, fill.Text(c.width, row(c.s)...), rows(c.want...))
	}
	equalRows(t, "no glyphs", fill.Text(5), nil)
	equalRows(t, "blanks that are set", fill.Text(3, bold("a b")...), [][]api.Glyph{slices.Concat(bold("a"), row(" "), bold("b"))})
}

func TestLeastAndMost(t *testing.T) {
	for _, c := range []struct {
		s           string
		least, most int
	}{
		{"", 0, 0},
		{"   ", 0, 0},
		{accent, 0, 0},
		{"a", 1, 1},
		{"a bcd ef", 3, 8},
		{"  bcd   a ", 3, 5},
		{"a" + hard + hard + "b c", 4, 6},
		{hard, 1, 1},
		{wide + " " + wide + wide + " a", 4, 9},
		{"a" + accent + " " + accent + " b", 1, 3},
		{"\n\t\x1b a", 3, 5},
	} {
		if least, most := fill.Least(row(c.s)...), fill.Most(row(c.s)...); least != c.least || most != c.most {
			t.Errorf("of %q: %d, %d, want %d, %d", c.s, least, most, c.least, c.most)
		}
	}
	if fill.Least() != 0 || fill.Most() != 0 {
		t.Error("of no glyphs")
	}
}

func TestForced(t *testing.T) {
	for _, c := range []struct {
		width int
		s     string
		want  bool
	}{
		{1, "ab", true},
		{2, "ab", false},
		{3, "ab", false},
		{3, wide + wide, true},
		{4, wide + wide, false},
		{0, accent, false},
		{0, "", false},
		{-1, "", true},
		{math.MinInt, "", true},
		{math.MinInt, "a", true},
		{math.MaxInt, "a", false},
		{2, " a ", true},
		{0, "\n", false},
		{0, hard, true},
	} {
		if fill.Forced(c.width, row(c.s)) != c.want {
			t.Errorf("Forced of %d, %q is not %t", c.width, c.s, c.want)
		}
	}
	if fill.Forced(0, nil) || !fill.Forced(-1, nil) {
		t.Error("of no glyphs")
	}
}

func TestSame(t *testing.T) {
	a := func() []api.Line {
		return []api.Line{{In: 1, G: row("a")}, {}, {In: 2, G: bold("b"), Forced: true}}
	}
	if !fill.Same(a(), a()) || !fill.Same(nil, nil) || !fill.Same(nil, []api.Line{}) || !fill.Same([]api.Line{{}}, []api.Line{{G: []api.Glyph{}}}) {
		t.Error("the same ones are not")
	}
	if fill.Same(a(), a()[:2]) || fill.Same(a()[:2], a()) || fill.Same(a(), nil) || fill.Same(nil, a()) {
		t.Error("more are the same")
	}
	for i, change := range []func(x []api.Line){
		func(x []api.Line) { x[0].In = 0 },
		func(x []api.Line) { x[0].Forced = true },
		func(x []api.Line) { x[2].Forced = false },
		func(x []api.Line) { x[0].G = row("b") },
		func(x []api.Line) { x[0].G = row("aa") },
		func(x []api.Line) { x[0].G = nil },
		func(x []api.Line) { x[1].G = row(" ") },
		func(x []api.Line) { x[1].In = -1 },
		func(x []api.Line) { x[2].G = row("b") },
		func(x []api.Line) { x[2].G[0].S |= 4 },
		func(x []api.Line) { x[0], x[2] = x[2], x[0] },
	} {
		b := a()
		change(b)
		if fill.Same(a(), b) || fill.Same(b, a()) || !fill.Same(b, b) {
			t.Error(i, b)
		}
	}
}
