package cells_test

import (
	"math/rand"
	"slices"
	"testing"

	"flong/api"
	"flong/cells"
	"flong/runes"
)

// anyRune is often of those that a call treats otherwise than most.
func anyRune(r *rand.Rand) rune {
	few := []rune{'a', 'b', ' ', ' ', ' ', api.Hard, api.Odd, accent, accent, 0x200b, wide, 0x1f600, bell, '\n', 0, 0x7f, 0x2028, half, -1, 0x110000}
	if r.Intn(8) == 0 {
		return rune(r.Uint32())
	}
	return few[r.Intn(len(few))]
}

func anyRow(r *rand.Rand) []api.Glyph {
	sets := []uint8{0, 0, 1, 2, 3, 4, 255}
	var l []api.Glyph
	for range r.Intn(10) {
		l = append(l, glyph(anyRune(r), sets[r.Intn(len(sets))]))
	}
	return l
}

func widthOf(l []api.Glyph) int {
	var all []rune
	for _, g := range l {
		all = append(all, g.R)
	}
	return runes.Sum(all...)
}

// front tries every front, the longest first.
func front(l []api.Glyph, width int) int {
	for n := len(l); n > 0 && width >= 0; n-- {
		if widthOf(l[:n]) <= width {
			return n
		}
	}
	return 0
}

// cleaned makes what may be written of each, and then looks for the begin.
func cleaned(l []api.Glyph) []api.Glyph {
	var out []api.Glyph
	for _, g := range l {
		if g.R == 0xa0 {
			g.R = 0x20
		} else {
			g.R = runes.Safe(g.R)
		}
		out = append(out, glyph(g.R, g.S%4))
	}
	for len(out) > 0 && runes.Width(out[0].R) == 0 {
		out = out[1:]
	}
	return out
}

func trimmed(l []api.Glyph) []api.Glyph {
	if n := len(l) - 1; n >= 0 && l[n].R == 0x20 {
		return trimmed(l[:n])
	}
	return l
}

// Front and rest are all, and no longer front has room.
func TestCutAnyRow(t *testing.T) {
	r := rand.New(rand.NewSource(5))
	for range 20000 {
		l, width := anyRow(r), r.Intn(14)-2
		a, b := cells.Cut(l, width)
		n := front(l, width)
		if !slices.Equal(a, l[:n]) || !slices.Equal(b, l[n:]) {
			t.Fatalf("Cut of %v at %d is %v, %v", l, width, a, b)
		}
		if cells.Width(l...) != widthOf(l) {
			t.Fatalf("Width of %v is %d", l, cells.Width(l...))
		}
	}
}

// A row filled up has its width.
func TestFillAnyRow(t *testing.T) {
	r := rand.New(rand.NewSource(6))
	for range 20000 {
		l, width := anyRow(r), r.Intn(24)-2
		want := slices.Concat(l, blanks(max(0, width-widthOf(l))))
		got := cells.Fill(l, width)
		if !slices.Equal(got, want) {
			t.Fatalf("Fill of %v to %d is %v", l, width, got)
		}
		if cells.Width(got...) != max(width, widthOf(l)) {
			t.Fatalf("Width of %v, filled to %d, is %d", l, width, cells.Width(got...))
		}
	}
}

func TestRunsOfAnyRow(t *testing.T) {
	r := rand.New(rand.NewSource(7))
	for range 20000 {
		l := anyRow(r)
		rows := cells.Runs(l...)
		if !slices.Equal(slices.Concat(rows...), l) {
			t.Fatalf("Runs of %v is %v", l, rows)
		}
		for i, row := range rows {
			if len(row) == 0 || i > 0 && rows[i-1][0].S == row[0].S {
				t.Fatalf("Runs of %v is %v", l, rows)
			}
			for _, g := range row {
				if g.S != row[0].S {
					t.Fatalf("Runs of %v is %v", l, rows)
				}
			}
		}
	}
}

func TestCleanAndTrimAnyRow(t *testing.T) {
	r := rand.New(rand.NewSource(8))
	for range 20000 {
		l := anyRow(r)
		c := cells.Clean(l...)
		if !slices.Equal(c, cleaned(l)) {
			t.Fatalf("Clean of %v is %v", l, c)
		}
		if !slices.Equal(cells.Clean(c...), c) {
			t.Fatalf("Clean of %v, cleaned, is %v", l, cells.Clean(c...))
		}
		for _, g := range cells.Of(cells.Text(c...), 0) {
			if runes.Control(g.R) {
				t.Fatalf("Text of %v, cleaned, has a control", l)
			}
		}
		if x := cells.Trim(l...); !slices.Equal(x, trimmed(l)) {
			t.Fatalf("Trim of %v is %v", l, x)
		}
	}
}

func TestTextOfAnyRow(t *testing.T) {
	r := rand.New(rand.NewSource(9))
	for range 20000 {
		l := anyRow(r)
		want := ""
		for _, g := range l {
			want += string(runes.Encode(g.R))
		}
		s := cells.Text(l...)
		if s != want {
			t.Fatalf("Text of %v is %q, want %q", l, s, want)
		}
		if back := cells.Of(s, 9); len(back) != len(l) || cells.Text(back...) != s {
			t.Fatalf("Of %q is %v", s, back)
		}
		if !cells.Same(l, slices.Clone(l)) || len(l) > 0 && cells.Same(l, l[1:]) {
			t.Fatalf("Same of %v", l)
		}
	}
}

// answers is every row that comes out of any call with l; the calls that answer none are made, too.
func answers(l []api.Glyph) [][]api.Glyph {
	cells.Text(l...)
	cells.Width(l...)
	cells.Same(l, l)
	a, b := cells.Cut(l, 3)
	all, none := cells.Cut(l, 99)
	nothing, whole := cells.Cut(l, -1)
	out := [][]api.Glyph{
		a, b, all, none, nothing, whole,
		cells.Fill(l, 0), cells.Fill(l, 9), cells.Blank(2), cells.Blank(2), cells.Of("ab", 1), cells.Of("ab", 1),
		cells.Clean(l...), cells.Trim(l...),
	}
	return append(out, cells.Runs(l...)...)
}

// What comes out is written over, and on behind: nothing else may change.
func TestNothingIsShared(t *testing.T) {
	for _, given := range [][]api.Glyph{
		nil,
		row('a', wide, 'b', 'c'),
		slices.Concat(row('a', 'b'), rowSet(1, wide, 'c'), row('d', ' ', ' ')),
		row(accent, 'a', api.Hard, bell, ' '),
	} {
		// There is room behind what is handed in, and it is somebody's.
		memory := append(slices.Clone(given), row('x', 'y', 'z')...)
		was := slices.Clone(memory)
		l := memory[:len(given)]
		out, want := answers(l), answers(slices.Clone(given))
		for i := range out {
			spoil(out[i])
			out[i] = nil
			for k := i + 1; k < len(out); k++ {
				equal(t, "another row", out[k], want[k])
			}
			equal(t, "what was handed in", memory, was)
		}
	}
}

func spoil(l []api.Glyph) {
	l = l[:cap(l)]
	for i := range l {
		l[i] = glyph('!', 255)
	}
}

func TestNothingIsKept(t *testing.T) {
	l := slices.Concat(row('a', 'b'), rowSet(1, wide, 'c'), row('d', ' '))
	want := answers(slices.Clone(l))
	out := answers(l)
	spoil(l)
	for i := range out {
		equal(t, "a row", out[i], want[i])
	}
}

// Long rows are answered as short ones are.
func TestLongRows(t *testing.T) {
	l := slices.Repeat(row('a', wide, accent), 1<<18)
	if cells.Width(l...) != 3<<18 || len(cells.Text(l...)) != 6<<18 {
		t.Error("Width, Text")
	}
	a, b := cells.Cut(l, 3<<17)
	if len(a) != 3<<17 || len(b) != 3<<17 {
		t.Error("Cut")
	}
	if len(cells.Runs(l...)) != 1 || len(cells.Clean(l...)) != len(l) || len(cells.Trim(slices.Repeat(row(' '), 1<<18)...)) != 0 {
		t.Error("Runs, Clean, Trim")
	}
	for i := range l {
		l[i].S = uint8(i % 2)
	}
	if len(cells.Runs(l...)) != len(l) {
		t.Error("Runs of one each")
	}
}
