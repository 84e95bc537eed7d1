package tbl_test

import (
	"math/rand"
	"slices"
	"sync"
	"testing"

	"flong/api"
	"flong/tbl"
	"flong/tree"
)

// places is where anything of a list, or of the room behind it, stands.
type places map[any]bool

// shared notes where a list's stand, and tells whether any stood there already.
func shared[T any](p places, l []T) bool {
	twice := false
	l = l[:cap(l)]
	for i := range l {
		twice = twice || p[&l[i]]
		p[&l[i]] = true
	}
	return twice
}

func sharedTable(p places, t api.Table) bool {
	twice := shared(p, t.Rows)
	for _, r := range t.Rows {
		twice = shared(p, r.Cells) || twice
		for _, l := range r.Cells {
			twice = shared(p, l) || twice
		}
	}
	return twice
}

// withRoom is l, with somebody's memory behind it.
func withRoom[T any](l []T, more T) []T {
	return append(slices.Clone(l), more, more)[:len(l)]
}

// cloned is t in memory of its own, with somebody's behind each list.
func cloned(t api.Table) api.Table {
	t.Rows = withRoom(t.Rows, rule())
	for i, r := range t.Rows {
		t.Rows[i].Cells = withRoom(r.Cells, row("!"))
		for k, l := range t.Rows[i].Cells {
			t.Rows[i].Cells[k] = withRoom(l, api.Glyph{R: '!'})
		}
	}
	return t
}

// roomStays is whether all is there that cloned put behind t's lists.
func roomStays(t api.Table) bool {
	n := len(t.Rows)
	stays := tree.SameTable(table("", t.Rows[n:n+2]...), table("", rule(), rule()))
	for _, r := range t.Rows {
		n := len(r.Cells)
		stays = stays && slices.EqualFunc(r.Cells[n:n+2], cellsOf("!", "!").Cells, slices.Equal[[]api.Glyph])
		for _, l := range r.Cells {
			stays = stays && slices.Equal(l[len(l):len(l)+2], row("!!"))
		}
	}
	return stays
}

// What is handed in is not changed, nor what stands behind it.
func TestNothingIsChanged(t *testing.T) {
	r := rand.New(rand.NewSource(56))
	for range 10000 {
		x := anyTable(r, anyGlyphs)
		given := cloned(x)
		tbl.Print(given)
		if !tree.SameTable(given, x) || !roomStays(given) {
			t.Fatalf("Print of %v changed it: %v", x, given)
		}
		l := anyLines(r)
		mine := withRoom(l, "!")
		tbl.Parse(1, mine...)
		if !slices.Equal(mine[:len(mine)+2], append(slices.Clone(l), "!", "!")) {
			t.Fatalf("Parse of %q changed it: %q", l, mine)
		}
	}
}

// What comes out is new memory: no two lists share any, be it in one answer, in two, or in one and what was handed in.
func TestNothingIsShared(t *testing.T) {
	r := rand.New(rand.NewSource(57))
	for range 2000 {
		p := places{}
		l, x := withRoom(anyLines(r), "!"), cloned(anyTable(r, anyGlyphs))
		if shared(p, l) || sharedTable(p, x) {
			t.Fatal("what is handed in shares some")
		}
		for range 2 {
			y, diags := tbl.Parse(1, l...)
			twice := sharedTable(p, y)
			twice = shared(p, diags) || twice
			twice = shared(p, tbl.Print(x)) || twice
			for _, s := range l {
				twice = shared(p, tbl.Cut(s)) || twice
			}
			if twice {
				t.Fatalf("of %q, %v some is shared", l, x)
			}
		}
	}
}

// What becomes of what was handed in is nothing to an answer.
func TestNothingIsKept(t *testing.T) {
	l := lines("box;\nl r.\na\tT{\nb\nc\\q\nT}")
	got, diags := tbl.Parse(1, l...)
	want, wrong := cloned(got), slices.Clone(diags)
	clear(l)
	if again, none := tbl.Parse(1, lines("r.\nx\ty")...); !tree.SameTable(got, want) || !slices.Equal(diags, wrong) || tree.SameTable(again, got) || len(none) != 1 {
		t.Error(got, diags)
	}
	x := boxed(table("lr", cellsOf("a", "b")))
	out := tbl.Print(x)
	clear(x.Rows[0].Cells[0])
	clear(x.Rows)
	if !slices.Equal(out, lines("box;\nl r.\na\tb")) {
		t.Error(out)
	}
}

// Several may ask at once.
func TestAskedAtOnce(t *testing.T) {
	l := lines("allbox;\nl r.\na\tT{\nb\nc\\q\nT}\n_")
	want, wrong := tbl.Parse(1, l...)
	var wait sync.WaitGroup
	for range 8 {
		wait.Go(func() {
			for range 100 {
				got, diags := tbl.Parse(1, l...)
				if !tree.SameTable(got, want) || !slices.Equal(diags, wrong) || !slices.Equal(tbl.Print(got), tbl.Print(want)) {
					t.Error(got, diags)
				}
			}
		})
	}
	wait.Wait()
}
