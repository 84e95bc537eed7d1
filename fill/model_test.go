package fill_test

import (
	"math"
	"math/rand"
	"slices"
	"testing"

	"flong/api"
	"flong/cells"
	"flong/fill"
)

// modelWords asks of each glyph whether a word begins there, and looks for its end.
func modelWords(l []api.Glyph) [][]api.Glyph {
	var out [][]api.Glyph
	for i, g := range l {
		if g.R == 0x20 || i > 0 && l[i-1].R != 0x20 {
			continue
		}
		n := i
		for n < len(l) && l[n].R != 0x20 {
			n++
		}
		if word := cells.Clean(l[i:n]...); cells.Width(word...) != 0 {
			out = append(out, word)
		}
	}
	return out
}

// joined is all words with a blank between.
func joined(words [][]api.Glyph) []api.Glyph {
	var out []api.Glyph
	for i, word := range words {
		if i > 0 {
			out = append(out, api.Glyph{R: 0x20, S: 0})
		}
		out = append(out, word...)
	}
	return out
}

// modelLines tries for each line how many words have room, the most first.
func modelLines(width int, words [][]api.Glyph) [][]api.Glyph {
	var left [][]api.Glyph
	for _, word := range words {
		if len(word) != 0 {
			left = append(left, word)
		}
	}
	var out [][]api.Glyph
	for len(left) > 0 {
		n := len(left)
		for n > 1 && cells.Width(joined(left[:n])...) > width {
			n--
		}
		out = append(out, joined(left[:n]))
		left = left[n:]
	}
	return out
}

func clipped(n int) int {
	switch {
	case n < 0:
		return 0
	case n > 65535:
		return 65535
	}
	return n
}

// roomOf is what is left of width behind in.
func roomOf(in, width int) int {
	if n := clipped(width) - clipped(in); n > 1 {
		return n
	}
	return 1
}

func modelInto(in, width int, l []api.Glyph) []api.Line {
	var out []api.Line
	room := roomOf(in, width)
	for _, g := range modelLines(room, modelWords(l)) {
		out = append(out, api.Line{In: clipped(in), G: g, Forced: cells.Width(g...) > room})
	}
	return out
}

func modelTagged(tag []api.Glyph, in, room, width int, l []api.Glyph) []api.Line {
	body := modelInto(clipped(in)+clipped(room), width, l)
	t := joined(modelWords(tag))
	n := cells.Width(t...)
	if len(t) == 0 {
		return body
	}
	if len(body) == 0 || n+1 > clipped(room) {
		alone := api.Line{In: clipped(in), G: t, Forced: n > roomOf(in, width)}
		return slices.Concat([]api.Line{alone}, body)
	}
	for range clipped(room) - n {
		t = append(t, api.Glyph{R: 0x20, S: 0})
	}
	body[0].In, body[0].G = clipped(in), slices.Concat(t, body[0].G)
	return body
}

// anyRow is often of those runes that a call treats otherwise than most.
func anyRow(r *rand.Rand, n int) []api.Glyph {
	few := []rune{'a', 'b', 'c', 'd', 'a', 'b', ' ', ' ', ' ', ' ', api.Hard, 0x301, 0x200b, 0x4e00, 0x1f600, '\n', '\t', 0x3000, 0xd800, -1, 0x110000}
	sets := []uint8{0, 0, 0, 1, 2, 3, 4, 255}
	var l []api.Glyph
	for range r.Intn(n) {
		l = append(l, api.Glyph{R: few[r.Intn(len(few))], S: sets[r.Intn(len(sets))]})
	}
	return l
}

// anyWords may have some without a glyph, and some of no width.
func anyWords(r *rand.Rand) [][]api.Glyph {
	var l [][]api.Glyph
	for range r.Intn(9) {
		l = append(l, anyRow(r, 5))
	}
	return l
}

// anyNumber is small most often.
func anyNumber(r *rand.Rand) int {
	far := []int{math.MinInt, math.MinInt + 1, -widest, widest - 1, widest, widest + 1, 1 << 32, math.MaxInt - 1, math.MaxInt}
	if r.Intn(30) == 0 {
		return far[r.Intn(len(far))]
	}
	return r.Intn(18) - 2
}

func TestAnyWords(t *testing.T) {
	r := rand.New(rand.NewSource(71))
	for range 100000 {
		l := anyRow(r, 16)
		got, want := fill.Words(l...), modelWords(l)
		if !sameRows(got, want) {
			t.Fatalf("Words of %v: %v, want %v", l, got, want)
		}
		least := 0
		for _, word := range want {
			least = max(least, cells.Width(word...))
		}
		if fill.Least(l...) != least || fill.Most(l...) != cells.Width(joined(want)...) {
			t.Fatalf("Least, Most of %v: %d, %d", l, fill.Least(l...), fill.Most(l...))
		}
	}
}

func TestAnyLines(t *testing.T) {
	r := rand.New(rand.NewSource(72))
	for range 100000 {
		width, words := anyNumber(r), anyWords(r)
		got, want := fill.Lines(width, words...), modelLines(width, words)
		if !sameRows(got, want) {
			t.Fatalf("Lines of %d, %v: %v, want %v", width, words, got, want)
		}
		l := anyRow(r, 20)
		got, want = fill.Text(width, l...), modelLines(width, modelWords(l))
		if !sameRows(got, want) {
			t.Fatalf("Text of %d, %v: %v, want %v", width, l, got, want)
		}
		for _, line := range words {
			if fill.Forced(width, line) != (cells.Width(line...) > width) {
				t.Fatalf("Forced of %d, %v", width, line)
			}
		}
	}
}

func TestAnyInto(t *testing.T) {
	r := rand.New(rand.NewSource(73))
	for range 100000 {
		in, width, l := anyNumber(r), anyNumber(r), anyRow(r, 20)
		got, want := fill.Into(in, width, l...), modelInto(in, width, l)
		if !fill.Same(got, want) {
			t.Fatalf("Into of %d, %d, %v: %v, want %v", in, width, l, got, want)
		}
	}
}

func TestAnyTagged(t *testing.T) {
	r := rand.New(rand.NewSource(74))
	for range 30000 {
		tag, in, room, width, l := anyRow(r, 9), anyNumber(r), anyNumber(r), anyNumber(r), anyRow(r, 20)
		got, want := fill.Tagged(tag, in, room, width, l...), modelTagged(tag, in, room, width, l)
		if !fill.Same(got, want) {
			t.Fatalf("Tagged of %v, %d, %d, %d, %v: %v, want %v", tag, in, room, width, l, got, want)
		}
	}
}

// No word is lost; no line is wider than its room, but for one word; none could have taken the next one.
func TestTextHolds(t *testing.T) {
	r := rand.New(rand.NewSource(75))
	for range 50000 {
		// Without hard blanks the words of a line can be told again.
		l := slices.DeleteFunc(anyRow(r, 30), func(g api.Glyph) bool { return g.R == api.Hard })
		width := r.Intn(14)
		lines := fill.Text(width, l...)
		var told [][]api.Glyph
		for i, line := range lines {
			words := fill.Words(line...)
			told = append(told, words...)
			if fill.Forced(width, line) && len(words) != 1 {
				t.Fatalf("Text of %d, %v: %v", width, l, line)
			}
			if i > 0 && cells.Width(lines[i-1]...)+1+cells.Width(words[0]...) <= width {
				t.Fatalf("Text of %d, %v: %v has room for more", width, l, lines[i-1])
			}
		}
		if !sameRows(told, fill.Words(l...)) {
			t.Fatalf("Text of %d, %v: %v", width, l, lines)
		}
	}
}

// In the room that Least tells no line is forced, and in one less there is one; Most is the least room of one line.
func TestLeastAndMostHold(t *testing.T) {
	r := rand.New(rand.NewSource(76))
	for range 20000 {
		l := anyRow(r, 20)
		least, most := fill.Least(l...), fill.Most(l...)
		if slices.ContainsFunc(fill.Into(0, least, l...), func(x api.Line) bool { return x.Forced }) {
			t.Fatalf("Least of %v: %d", l, least)
		}
		if least > 1 && !slices.ContainsFunc(fill.Into(0, least-1, l...), func(x api.Line) bool { return x.Forced }) {
			t.Fatalf("Least of %v: %d", l, least)
		}
		if most > 0 && len(fill.Text(most, l...)) != 1 || most > least && len(fill.Text(most-1, l...)) != 2 {
			t.Fatalf("Most of %v: %d", l, most)
		}
	}
}
