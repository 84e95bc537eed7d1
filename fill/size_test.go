package fill_test

import (
	"math"
	"runtime"
	"slices"
	"testing"

	"flong/api"
	"flong/cells"
	"flong/fill"
)

// many is as many words as a document's bytes may tell.
const many = api.MaxInput / 2

// used is how many bytes a call takes.
func used(call func()) uint64 {
	var from, to runtime.MemStats
	runtime.ReadMemStats(&from)
	call()
	runtime.ReadMemStats(&to)
	return to.TotalAlloc - from.TotalAlloc
}

// A line of many words is not copied, nor counted, for each of them.
func TestLongLine(t *testing.T) {
	l := slices.Repeat(row("a "), many)
	n := used(func() {
		lines := fill.Text(math.MaxInt, l...)
		if len(lines) != 1 || len(lines[0]) != 2*many-1 {
			t.Error(len(lines))
		}
	})
	if n/many > 1000 {
		t.Error("bytes for each word:", n/many)
	}
	if fill.Most(l...) != 2*many-1 || fill.Least(l...) != 1 || len(fill.Words(l...)) != many {
		t.Error("Most, Least, Words")
	}
}

func TestManyLines(t *testing.T) {
	l := slices.Repeat(row("a "), many)
	for _, c := range []struct{ width, n int }{{math.MinInt, many}, {0, many}, {1, many}, {3, many / 2}, {2*many - 2, 2}, {2*many - 1, 1}} {
		if n := len(fill.Text(c.width, l...)); n != c.n {
			t.Error(c.width, n)
		}
	}
	if lines := fill.Into(1, 3, l...); len(lines) != many || lines[many-1].In != 1 || lines[many-1].Forced {
		t.Error(len(lines))
	}
	lines := fill.Tagged(l, 1, 3, 3, l...)
	if len(lines) != many+1 || len(lines[0].G) != 2*many-1 || !lines[0].Forced || lines[1].Forced {
		t.Error(len(lines))
	}
}

func TestLongWord(t *testing.T) {
	l := slices.Repeat(row(wide), 2*many)
	lines := fill.Tagged(l, 1, widest, 9, l...)
	if len(lines) != 2 || !lines[0].Forced || !lines[1].Forced || cells.Width(lines[1].G...) != 4*many {
		t.Error(len(lines))
	}
	if fill.Least(l...) != 4*many || fill.Most(l...) != 4*many {
		t.Error("Least, Most")
	}
}

// Blanks alone, and words without anything, make nothing, however many they are.
func TestManyOfNothing(t *testing.T) {
	for _, s := range []string{" ", accent, " " + accent} {
		l := slices.Repeat(row(s), many)
		if len(fill.Words(l...)) != 0 || fill.Least(l...) != 0 || fill.Most(l...) != 0 || len(fill.Tagged(l, 1, 2, 3, l...)) != 0 {
			t.Errorf("%q", s)
		}
	}
	if len(fill.Lines(5, make([][]api.Glyph, many)...)) != 0 {
		t.Error("Lines")
	}
}
