package fill_test

import (
	"math/rand"
	"slices"
	"sync"
	"testing"

	"flong/api"
	"flong/fill"
)

// places is where anything of a list, or of the room behind it, stands.
type places map[any]bool

// shared notes where a list's stand, and tells whether any stood there already.
func shared[T any](p places, l []T) bool {
	twice := false
	l = l[:cap(l)]
	for i := range l {
		twice = twice || p[&l[i]]
		p[&l[i]] = true
	}
	return twice
}

func sharedRows(p places, l [][]api.Glyph) bool {
	twice := shared(p, l)
	for _, x := range l {
		twice = shared(p, x) || twice
	}
	return twice
}

func sharedLines(p places, l []api.Line) bool {
	twice := shared(p, l)
	for _, x := range l {
		twice = shared(p, x.G) || twice
	}
	return twice
}

// withRoom is l, with somebody's memory behind it.
func withRoom[T any](l []T, more T) []T {
	return append(slices.Clone(l), more, more)[:len(l)]
}

func rowWithRoom(l []api.Glyph) []api.Glyph {
	return withRoom(l, api.Glyph{R: '!'})
}

func rowStays(l, was []api.Glyph) bool {
	return slices.Equal(l[:len(l)+2], append(slices.Clone(was), row("!!")...))
}

func rowsWithRoom(l [][]api.Glyph) [][]api.Glyph {
	out := withRoom(l, row("!"))
	for i := range out {
		out[i] = rowWithRoom(out[i])
	}
	return out
}

func rowsStay(l, was [][]api.Glyph) bool {
	if !sameRows(l[:len(l)+2], append(slices.Clone(was), row("!"), row("!"))) {
		return false
	}
	for i := range l {
		if !rowStays(l[i], was[i]) {
			return false
		}
	}
	return true
}

func linesWithRoom(l []api.Line) []api.Line {
	out := withRoom(l, line(1, "!"))
	for i := range out {
		out[i].G = rowWithRoom(out[i].G)
	}
	return out
}

func linesStay(l, was []api.Line) bool {
	if !fill.Same(l[:len(l)+2], append(slices.Clone(was), line(1, "!"), line(1, "!"))) {
		return false
	}
	for i := range l {
		if !rowStays(l[i].G, was[i].G) {
			return false
		}
	}
	return true
}

// What is handed in is not changed, nor what stands behind it.
func TestNothingIsChanged(t *testing.T) {
	r := rand.New(rand.NewSource(77))
	for range 20000 {
		tag, l, words := anyRow(r, 9), anyRow(r, 20), anyWords(r)
		lines := fill.Into(1, 9, l...)
		myTag, mine, myWords, myLines := rowWithRoom(tag), rowWithRoom(l), rowsWithRoom(words), linesWithRoom(lines)
		width := r.Intn(12)
		fill.Words(mine...)
		fill.Lines(width, myWords...)
		fill.Text(width, mine...)
		fill.Least(mine...)
		fill.Most(mine...)
		fill.Forced(width, mine)
		fill.Into(2, width, mine...)
		fill.Tagged(myTag, 1, r.Intn(9), width, mine...)
		fill.Same(myLines, myLines)
		if !rowStays(myTag, tag) || !rowStays(mine, l) || !rowsStay(myWords, words) || !linesStay(myLines, lines) {
			t.Fatalf("of %v, %v, %v some was changed", tag, l, words)
		}
	}
}

// What comes out is new memory: no two lists share any, be it in one answer, in two, or in one and what was handed in.
func TestNothingIsShared(t *testing.T) {
	r := rand.New(rand.NewSource(78))
	for range 5000 {
		p := places{}
		tag, l, words, width := rowWithRoom(anyRow(r, 9)), rowWithRoom(anyRow(r, 20)), rowsWithRoom(anyWords(r)), r.Intn(12)
		if shared(p, tag) || shared(p, l) || sharedRows(p, words) {
			t.Fatal("what is handed in shares some")
		}
		for range 2 {
			twice := sharedRows(p, fill.Words(l...))
			twice = sharedRows(p, fill.Lines(width, words...)) || twice
			twice = sharedRows(p, fill.Text(width, l...)) || twice
			twice = sharedLines(p, fill.Into(1, width, l...)) || twice
			for _, room := range []int{0, 3, 12} {
				twice = sharedLines(p, fill.Tagged(tag, 1, room, width, l...)) || twice
			}
			if twice {
				t.Fatalf("of %v, %v, %v some is shared", tag, l, words)
			}
		}
	}
}

// A word handed in twice, or memory that words share there, is not shared by what comes out.
func TestWordsThatShare(t *testing.T) {
	l := row("abcd")
	for _, width := range []int{0, 9} {
		p := places{}
		shared(p, l)
		if sharedRows(p, fill.Lines(width, l, l, l[:2], l[2:])) {
			t.Error("some is shared", width)
		}
	}
}

// What becomes of what was handed in is nothing to an answer.
func TestNothingIsKept(t *testing.T) {
	tag, l, words := row("t u"), row("aa b cc"), rows("aa", "b", "cc")
	texts, told := fill.Lines(4, words...), fill.Words(l...)
	lines, tagged := fill.Into(1, 5, l...), fill.Tagged(tag, 1, 4, 9, l...)
	for _, word := range words {
		clear(word)
	}
	clear(tag)
	clear(l)
	clear(words)
	equalRows(t, "Lines", texts, rows("aa b", "cc"))
	equalRows(t, "Words", told, rows("aa", "b", "cc"))
	equalLines(t, "Into", lines, list(line(1, "aa b"), line(1, "cc")))
	equalLines(t, "Tagged", tagged, list(line(1, "t u aa b"), line(5, "cc")))
	equalLines(t, "Tagged later", fill.Tagged(row("t"), 1, 4, 9, row("x")...), list(line(1, "t   x")))
}

// Several may ask at once.
func TestAskedAtOnce(t *testing.T) {
	tag, l := row("t u"), row("aa b"+hard+"c  dd eeeeeeee f")
	want := fill.Tagged(tag, 1, 4, 9, l...)
	var wait sync.WaitGroup
	for range 8 {
		wait.Go(func() {
			for range 100 {
				equalLines(t, "at once", fill.Tagged(tag, 1, 4, 9, l...), want)
				equalRows(t, "at once", fill.Lines(4, l, tag), [][]api.Glyph{l, tag})
			}
		})
	}
	wait.Wait()
}
