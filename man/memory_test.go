package man_test

import (
	"math/rand"
	"slices"
	"sync"
	"testing"

	"flong/api"
	"flong/lines"
	"flong/man"
	"flong/tree"
)

// places is where anything of a list, or of the room behind it, stands.
type places map[any]bool

// shared notes where a list's stand, and tells whether any stood there already.
func shared[T any](p places, l []T) bool {
	twice := false
	l = l[:cap(l)]
	for i := range l {
		twice = twice || p[&l[i]]
		p[&l[i]] = true
	}
	return twice
}

func sharedRows(p places, l [][]api.Glyph) bool {
	twice := shared(p, l)
	for _, row := range l {
		twice = shared(p, row) || twice
	}
	return twice
}

func sharedNodes(p places, l []api.Node) bool {
	twice := shared(p, l)
	for _, x := range l {
		twice = shared(p, x.Text) || twice
		twice = sharedRows(p, x.Rows) || twice
		twice = shared(p, x.Grid.Rows) || twice
		for _, r := range x.Grid.Rows {
			twice = sharedRows(p, r.Cells) || twice
		}
		twice = sharedNodes(p, x.Kids) || twice
	}
	return twice
}

// withRoom is l, with somebody's memory behind it.
func withRoom[T any](l []T, more T) []T {
	return append(slices.Clone(l), more, more)[:len(l)]
}

// cloned is rows in memory of their own, with somebody's behind each list.
func cloned(l []api.Row) []api.Row {
	l = withRoom(l, macro(9, "!"))
	for i, x := range l {
		l[i].Args = withRoom(x.Args, "!")
	}
	return l
}

// roomStays is whether all is there that cloned put behind the lists of l.
func roomStays(l []api.Row) bool {
	stays := lines.Same(l[len(l):len(l)+2], []api.Row{macro(9, "!"), macro(9, "!")})
	for _, x := range l {
		n := len(x.Args)
		stays = stays && slices.Equal(x.Args[n:n+2], []string{"!", "!"})
	}
	return stays
}

// What is handed in is not changed, nor what stands behind it.
func TestNothingIsChanged(t *testing.T) {
	r := rand.New(rand.NewSource(66))
	for range 20000 {
		l := anyRows(r)
		given := cloned(l)
		man.Parse(given...)
		for _, x := range given {
			man.Inline(x)
		}
		if !lines.Same(given, l) || !roomStays(given) {
			t.Fatalf("%#v was changed: %#v", l, given)
		}
	}
}

// What comes out is new memory: no two lists share any, be it in one answer, in two, or in one and what was handed in.
func TestNothingIsShared(t *testing.T) {
	r := rand.New(rand.NewSource(67))
	for range 5000 {
		p, l := places{}, cloned(anyRows(r))
		twice := shared(p, l)
		for _, x := range l {
			twice = shared(p, x.Args) || twice
		}
		for range 2 {
			d, diags := man.Parse(l...)
			twice = sharedNodes(p, d.Kids) || twice
			twice = shared(p, diags) || twice
			d, diags = man.Read(lines.Write(l...) + "\n.B \"a\n\\q")
			twice = sharedNodes(p, d.Kids) || twice
			twice = shared(p, diags) || twice
			for _, x := range l {
				row, diags, _ := man.Inline(x)
				twice = shared(p, row) || twice
				twice = shared(p, diags) || twice
			}
		}
		if twice {
			t.Fatalf("of %#v some is shared", l)
		}
	}
}

// What becomes of what was handed in, or of an answer, is nothing to another answer.
func TestNothingIsKept(t *testing.T) {
	r := rand.New(rand.NewSource(68))
	for range 5000 {
		l := anyRows(r)
		mine := cloned(l)
		d, diags := man.Parse(mine...)
		for _, x := range mine {
			clear(x.Args)
		}
		clear(mine)
		spoilt, wrong := man.Parse(l...)
		clear(spoilt.Kids)
		clear(wrong)
		again, more := man.Parse(l...)
		if !tree.Same(d.Kids, again.Kids) || !slices.Equal(diags, more) {
			t.Fatalf("of %#v: %v %v, %v %v", l, d, diags, again, more)
		}
	}
}

// Several may ask at once.
func TestAskedAtOnce(t *testing.T) {
	r := rand.New(rand.NewSource(69))
	var l []api.Row
	for range 20 {
		l = append(l, anyRows(r)...)
	}
	want, wrong := man.Parse(l...)
	var wait sync.WaitGroup
	for range 8 {
		wait.Go(func() {
			for range 50 {
				d, diags := man.Parse(l...)
				if !tree.Same(d.Kids, want.Kids) || !slices.Equal(diags, wrong) {
					t.Error(d, diags)
				}
			}
		})
	}
	wait.Wait()
}
