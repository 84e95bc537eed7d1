package cells_test

import (
	"math"
	"slices"
	"strings"
	"testing"

	"flong/api"
	"flong/cells"
	"flong/runes"
)

// Runes as the document writes them, beside a, b and so on.
const (
	wide   = 0x4e00 // of two cells
	accent = 0x301  // of none
	bell   = 7      // a control
	half   = 0xd800 // none that may be
)

func glyph(r rune, set uint8) api.Glyph {
	return api.Glyph{R: r, S: set}
}

// row is glyphs of these runes, set 0.
func row(l ...rune) []api.Glyph {
	return rowSet(0, l...)
}

func rowSet(set uint8, l ...rune) []api.Glyph {
	var out []api.Glyph
	for _, r := range l {
		out = append(out, glyph(r, set))
	}
	return out
}

func blanks(n int) []api.Glyph {
	var out []api.Glyph
	for range n {
		out = append(out, glyph(0x20, 0))
	}
	return out
}

func equal(t *testing.T, what string, got, want []api.Glyph) {
	t.Helper()
	if !slices.Equal(got, want) {
		t.Errorf("%s: %v, want %v", what, got, want)
	}
}

func TestOf(t *testing.T) {
	equal(t, "of nothing", cells.Of("", api.Bold), nil)
	equal(t, "of letters", cells.Of("ab", 0), row('a', 'b'))
	for _, set := range []uint8{0, api.Bold, api.Slant, api.Bold | api.Slant, 4, 128, 255} {
		equal(t, "set", cells.Of("a \u4e00\u0301", set), rowSet(set, 'a', ' ', wide, accent))
	}
	equal(t, "of any bytes", cells.Of("a\xff\xc3\xa9\xe2\x82", 1), rowSet(1, 'a', api.Odd, 0xe9, api.Odd, api.Odd))
	equal(t, "of half a rune", cells.Of("\xed\xa0\x80", 0), row(api.Odd, api.Odd, api.Odd))
	equal(t, "of controls", cells.Of("\x00\n\t\x1b\u2028\u00a0", 2), rowSet(2, 0, '\n', '\t', 0x1b, 0x2028, api.Hard))
}

func TestText(t *testing.T) {
	for _, c := range []struct {
		l    []api.Glyph
		want string
	}{
		{nil, ""},
		{[]api.Glyph{}, ""},
		{row('a', 'b'), "ab"},
		{[]api.Glyph{glyph('a', 1), glyph('b', 255), glyph(' ', 2)}, "ab "},
		{row('a', wide, accent, 0x1f600), "a\u4e00\u0301\U0001f600"},
		{row(half, -1, 0x110000), "\ufffd\ufffd\ufffd"},
		{row('a', bell, '\n', 0, api.Hard), "a\x07\n\x00\u00a0"},
	} {
		if got := cells.Text(c.l...); got != c.want {
			t.Errorf("Text of %v is %q, want %q", c.l, got, c.want)
		}
	}
}

func TestTextOfWhatWasRead(t *testing.T) {
	for _, s := range []string{"", "ab", "a\u4e00\u0301b\u00a0\n", "\ufffd", "a\xffb", "\xc3", "\xe2\x82\xac\x80"} {
		want := string(runes.Encode(runes.Decode([]byte(s))...))
		if got := cells.Text(cells.Of(s, 3)...); got != want {
			t.Errorf("%q: %q, want %q", s, got, want)
		}
	}
}

func TestWidth(t *testing.T) {
	for _, c := range []struct {
		l    []api.Glyph
		want int
	}{
		{nil, 0},
		{[]api.Glyph{}, 0},
		{row('a'), 1},
		{row(wide), 2},
		{row(accent), 0},
		{row('a', accent, wide, ' ', api.Hard), 5},
		{rowSet(255, 'a', wide), 3},
		{row(bell, half, -1, 0x110000, '\n'), 0},
		{row('a', bell, 'b', api.Odd), 3},
	} {
		if got := cells.Width(c.l...); got != c.want {
			t.Errorf("Width of %v is %d, want %d", c.l, got, c.want)
		}
	}
}

func TestCut(t *testing.T) {
	l := []api.Glyph{glyph('a', 1), glyph(accent, 0), glyph(wide, 2), glyph(accent, 2), glyph(bell, 0), glyph('b', 0)}
	for _, c := range []struct{ width, n int }{
		{math.MinInt, 0}, {math.MinInt + 1, 0}, {-1, 0}, {0, 0},
		{1, 2}, {2, 2}, {3, 5}, {4, 6}, {5, 6}, {api.MaxCells, 6}, {api.MaxCells + 1, 6}, {math.MaxInt, 6},
	} {
		front, rest := cells.Cut(l, c.width)
		equal(t, "front", front, l[:c.n])
		equal(t, "rest", rest, l[c.n:])
	}
}

func TestCutAtNoWidth(t *testing.T) {
	l := row(accent, bell, half, 'a', accent)
	for _, c := range []struct{ width, n int }{{-2, 0}, {-1, 0}, {0, 3}, {1, 5}, {2, 5}} {
		front, rest := cells.Cut(l, c.width)
		equal(t, "front", front, l[:c.n])
		equal(t, "rest", rest, l[c.n:])
	}
	for _, width := range []int{math.MinInt, -1, 0, 1, math.MaxInt} {
		front, rest := cells.Cut(nil, width)
		equal(t, "front of nothing", front, nil)
		equal(t, "rest of nothing", rest, nil)
	}
}

// A front ends at the first glyph that doesn't fit: a narrower one behind it doesn't come in.
func TestCutIsAFront(t *testing.T) {
	front, rest := cells.Cut(row('a', wide, 'b'), 2)
	equal(t, "front", front, row('a'))
	equal(t, "rest", rest, row(wide, 'b'))
	front, rest = cells.Cut(row(wide, accent, 'b'), 1)
	equal(t, "front", front, nil)
	equal(t, "rest", rest, row(wide, accent, 'b'))
}

func TestBlank(t *testing.T) {
	for _, c := range [][2]int{
		{math.MinInt, 0}, {-1, 0}, {0, 0}, {1, 1}, {3, 3},
		{api.MaxCells - 1, api.MaxCells - 1}, {api.MaxCells, api.MaxCells}, {api.MaxCells + 1, api.MaxCells}, {1 << 40, api.MaxCells}, {math.MaxInt, api.MaxCells},
	} {
		if got := cells.Blank(c[0]); !slices.Equal(got, blanks(c[1])) {
			t.Errorf("Blank of %d has %d, want %d", c[0], len(got), c[1])
		}
	}
}

func TestFill(t *testing.T) {
	l := []api.Glyph{glyph('a', 1), glyph(wide, 2), glyph(accent, 2)}
	for _, c := range []struct{ width, lack int }{
		{math.MinInt, 0}, {math.MinInt + 2, 0}, {-1, 0}, {0, 0}, {2, 0}, {3, 0}, {4, 1}, {7, 4},
		{api.MaxCells - 1, api.MaxCells - 4}, {api.MaxCells, api.MaxCells - 3}, {api.MaxCells + 1, api.MaxCells - 3}, {math.MaxInt, api.MaxCells - 3},
	} {
		if got, want := cells.Fill(l, c.width), slices.Concat(l, blanks(c.lack)); !slices.Equal(got, want) {
			t.Errorf("Fill to %d has %d, want %d", c.width, len(got), len(want))
		}
	}
	equal(t, "nothing", cells.Fill(nil, 0), nil)
	equal(t, "nothing, to 2", cells.Fill(nil, 2), blanks(2))
	equal(t, "nothing, below 0", cells.Fill(nil, math.MinInt), nil)
	equal(t, "of no width", cells.Fill(row(accent, bell), 1), row(accent, bell, ' '))
	equal(t, "blanks set", cells.Fill(rowSet(1, ' '), 2), []api.Glyph{glyph(' ', 1), glyph(' ', 0)})
}

func TestFillWhatIsTooWide(t *testing.T) {
	l := cells.Of(strings.Repeat("\u4e00", api.MaxCells), api.Slant)
	for _, width := range []int{math.MinInt, -1, 0, 1, api.MaxCells, api.MaxCells + 1, 2 * api.MaxCells, 3 * api.MaxCells, math.MaxInt} {
		if got := cells.Fill(l, width); !slices.Equal(got, l) {
			t.Errorf("Fill to %d has %d", width, len(got))
		}
	}
}

func TestRuns(t *testing.T) {
	for _, c := range []struct {
		l    []api.Glyph
		want [][]api.Glyph
	}{
		{nil, nil},
		{[]api.Glyph{}, nil},
		{row('a'), [][]api.Glyph{row('a')}},
		{row('a', 'b', accent), [][]api.Glyph{row('a', 'b', accent)}},
		{slices.Concat(rowSet(1, 'a'), rowSet(2, 'b')), [][]api.Glyph{rowSet(1, 'a'), rowSet(2, 'b')}},
		{slices.Concat(row('a', 'b'), rowSet(1, 'c'), row('d')), [][]api.Glyph{row('a', 'b'), rowSet(1, 'c'), row('d')}},
		{slices.Concat(rowSet(3, 'a', 'a'), rowSet(7, 'a', 'a'), rowSet(255, 'a')), [][]api.Glyph{rowSet(3, 'a', 'a'), rowSet(7, 'a', 'a'), rowSet(255, 'a')}},
	} {
		if got := cells.Runs(c.l...); !slices.EqualFunc(got, c.want, slices.Equal[[]api.Glyph]) {
			t.Errorf("Runs of %v is %v, want %v", c.l, got, c.want)
		}
	}
}

func TestClean(t *testing.T) {
	for _, c := range []struct {
		what    string
		l, want []api.Glyph
	}{
		{"nothing", nil, nil},
		{"letters", row('a', 'b'), row('a', 'b')},
		{"hard", rowSet(2, api.Hard, 'a', api.Hard), rowSet(2, ' ', 'a', ' ')},
		{"blanks stay", row(' ', 'a', ' '), row(' ', 'a', ' ')},
		{"controls", row('a', bell, '\n', 0, 0x1b, 0x7f, 0x9f, 0x2028, 0x2029), row('a', api.Odd, api.Odd, api.Odd, api.Odd, api.Odd, api.Odd, api.Odd, api.Odd)},
		{"what may not be", row('a', half, -1, 0x110000), row('a', api.Odd, api.Odd, api.Odd)},
		{"sets", []api.Glyph{glyph('a', 4), glyph('b', 5), glyph('c', 254), glyph('d', 255), glyph(bell, 6)}, []api.Glyph{glyph('a', 0), glyph('b', 1), glyph('c', 2), glyph('d', 3), glyph(api.Odd, 2)}},
		{"a hard one's set", []api.Glyph{glyph(api.Hard, 253)}, []api.Glyph{glyph(' ', 1)}},
		{"of no width at the begin", row(accent, 0x200b, 'a', accent), row('a', accent)},
		{"of no width alone", row(accent, 0x200b, 0xe0100), nil},
		{"of no width behind a blank", row(' ', accent), row(' ', accent)},
		{"of no width behind a hard one", row(accent, api.Hard, accent), row(' ', accent)},
		{"of no width inside, its set", []api.Glyph{glyph('a', 1), glyph(accent, 7), glyph(accent, 0)}, []api.Glyph{glyph('a', 1), glyph(accent, 3), glyph(accent, 0)}},
	} {
		equal(t, c.what, cells.Clean(c.l...), c.want)
	}
}

// What may not be written becomes a rune that has a width: it stays at the begin, and others may stand behind it.
func TestCleanControlAtTheBegin(t *testing.T) {
	for _, r := range []rune{0, bell, '\n', 0x9f, 0x2028, half, -1, 0x110000, math.MinInt32, math.MaxInt32} {
		equal(t, "at the begin", cells.Clean(row(accent, r, accent, 'a')...), row(api.Odd, accent, 'a'))
	}
}

func TestTrim(t *testing.T) {
	for _, c := range []struct {
		what    string
		l, want []api.Glyph
	}{
		{"nothing", nil, nil},
		{"none", row('a', 'b'), row('a', 'b')},
		{"at the end", row('a', ' ', ' '), row('a')},
		{"otherwise set", []api.Glyph{glyph('a', 0), glyph(' ', 1), glyph(' ', 0), glyph(' ', 255)}, row('a')},
		{"at the begin, and inside", row(' ', 'a', ' ', 'b', ' '), row(' ', 'a', ' ', 'b')},
		{"all", slices.Concat(blanks(2), rowSet(2, ' ')), nil},
		{"a hard one stays", row('a', ' ', api.Hard), row('a', ' ', api.Hard)},
		{"and others do", row('a', ' ', '\t', ' '), row('a', ' ', '\t')},
		{"one of no width stays", row('a', ' ', accent), row('a', ' ', accent)},
	} {
		equal(t, c.what, cells.Trim(c.l...), c.want)
	}
}

func TestSame(t *testing.T) {
	l := []api.Glyph{glyph('a', 1), glyph(wide, 0)}
	for _, c := range []struct {
		what string
		a, b []api.Glyph
		want bool
	}{
		{"nothing", nil, nil, true},
		{"nothing, and none", nil, []api.Glyph{}, true},
		{"nothing, and some", nil, l, false},
		{"alike", l, slices.Clone(l), true},
		{"itself", l, l, true},
		{"a front", l, l[:1], false},
		{"another rune", l, []api.Glyph{glyph('a', 1), glyph('b', 0)}, false},
		{"otherwise set", l, []api.Glyph{glyph('a', 1), glyph(wide, 4)}, false},
		{"the first otherwise set", l, []api.Glyph{glyph('a', 0), glyph(wide, 0)}, false},
		{"another order", l, []api.Glyph{glyph(wide, 0), glyph('a', 1)}, false},
		{"written alike", row(half), row(api.Odd), false},
	} {
		if cells.Same(c.a, c.b) != c.want || cells.Same(c.b, c.a) != c.want {
			t.Errorf("%s: not %v", c.what, c.want)
		}
	}
}

func TestExample(t *testing.T) {
	front, rest := cells.Cut(row('a', wide, 'b'), 2)
	equal(t, "front", front, row('a'))
	equal(t, "rest", rest, row(wide, 'b'))
}
