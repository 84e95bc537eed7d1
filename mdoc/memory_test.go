package mdoc_test

import (
	"math/rand"
	"slices"
	"sync"
	"testing"

	"flong/api"
	"flong/lines"
	"flong/mdoc"
	"flong/tree"
)

// places is where anything of a list, or of the room behind it, stands.
type places map[any]bool

// shared notes where a list's stand, and tells whether any stood there already.
func shared[T any](p places, l []T) bool {
	twice := false
	l = l[:cap(l)]
	for i := range l {
		twice = twice || p[&l[i]]
		p[&l[i]] = true
	}
	return twice
}

func sharedRows(p places, l [][]api.Glyph) bool {
	twice := shared(p, l)
	for _, row := range l {
		twice = shared(p, row) || twice
	}
	return twice
}

func sharedNodes(p places, l []api.Node) bool {
	twice := shared(p, l)
	for _, x := range l {
		twice = shared(p, x.Text) || twice
		twice = sharedRows(p, x.Rows) || twice
		twice = shared(p, x.Grid.Rows) || twice
		for _, r := range x.Grid.Rows {
			twice = sharedRows(p, r.Cells) || twice
		}
		twice = sharedNodes(p, x.Kids) || twice
	}
	return twice
}

// withRoom is l, with somebody's memory behind it.
func withRoom[T any](l []T, more T) []T {
	return append(slices.Clone(l), more, more)[:len(l)]
}

// cloned is rows in memory of their own, with somebody's behind each list.
func cloned(l []api.Row) []api.Row {
	l = withRoom(l, macro(9, "!"))
	for i, x := range l {
		l[i].Args = withRoom(x.Args, "!")
	}
	return l
}

// roomStays is whether all is there that cloned put behind the lists of l.
func roomStays(l []api.Row) bool {
	stays := lines.Same(l[len(l):len(l)+2], []api.Row{macro(9, "!"), macro(9, "!")})
	for _, x := range l {
		n := len(x.Args)
		stays = stays && slices.Equal(x.Args[n:n+2], []string{"!", "!"})
	}
	return stays
}

var odd = is([]api.Glyph{{R: '!', S: 9}})

func isNot(g api.Glyph) bool {
	return g != odd.Text[0]
}

// roomy is pieces in memory of their own, with somebody's behind each list, and what stands behind all of their glyphs.
func roomy(l []api.Piece) ([]api.Piece, []api.Glyph) {
	l = withRoom(l, odd)
	var room []api.Glyph
	for i, x := range l {
		l[i].Text = withRoom(x.Text, odd.Text[0])
		n := len(x.Text)
		room = append(room, l[i].Text[n:n+2]...)
	}
	return l, room
}

// What is handed in is not changed, nor what stands behind it.
func TestNothingIsChanged(t *testing.T) {
	r := rand.New(rand.NewSource(76))
	for range 20000 {
		l := anyRows(r)
		given := cloned(l)
		mdoc.Parse(given...)
		mdoc.Kind(given...)
		for _, x := range given {
			mdoc.Pieces("n", x.Args...)
		}
		if !lines.Same(given, l) || !roomStays(given) {
			t.Fatalf("%#v was changed: %#v", l, given)
		}
		said, _, _ := mdoc.Pieces("n", anyWords(r, 8)...)
		mine, room := roomy(said)
		mdoc.Join(mine...)
		if !same(mine, said) || !same(mine[len(mine):len(mine)+2], pieces(odd, odd)) || slices.ContainsFunc(room, isNot) {
			t.Fatalf("%#v was changed: %#v", said, mine)
		}
	}
}

// What comes out is new memory: no two lists share any, be it in one answer, in two, or in one and what was handed in.
func TestNothingIsShared(t *testing.T) {
	r := rand.New(rand.NewSource(77))
	for range 5000 {
		p, l := places{}, cloned(anyRows(r))
		twice := shared(p, l)
		for _, x := range l {
			twice = shared(p, x.Args) || twice
		}
		for range 2 {
			d, diags := mdoc.Parse(l...)
			twice = sharedNodes(p, d.Kids) || twice
			twice = shared(p, diags) || twice
			for _, read := range []func(s string) (api.Doc, []api.Diag){mdoc.Read, mdoc.Any} {
				d, diags = read(lines.Write(l...) + "\n.Em \"a\n\\q")
				twice = sharedNodes(p, d.Kids) || twice
				twice = shared(p, diags) || twice
			}
			for _, x := range l {
				said, _, diags := mdoc.Pieces("n", x.Args...)
				twice = shared(p, said) || twice
				twice = shared(p, diags) || twice
				for _, x := range said {
					twice = shared(p, x.Text) || twice
				}
				twice = shared(p, mdoc.Join(said...)) || twice
			}
		}
		if twice {
			t.Fatalf("of %#v some is shared", l)
		}
	}
}

// What becomes of what was handed in, or of an answer, is nothing to another answer.
func TestNothingIsKept(t *testing.T) {
	r := rand.New(rand.NewSource(78))
	for range 5000 {
		l := anyRows(r)
		mine := cloned(l)
		d, diags := mdoc.Parse(mine...)
		for _, x := range mine {
			clear(x.Args)
		}
		clear(mine)
		spoilt, wrong := mdoc.Parse(l...)
		clear(spoilt.Kids)
		clear(wrong)
		again, more := mdoc.Parse(l...)
		if !tree.Same(d.Kids, again.Kids) || !slices.Equal(diags, more) {
			t.Fatalf("of %#v: %v %v, %v %v", l, d, diags, again, more)
		}
	}
}

// Several may ask at once.
func TestAskedAtOnce(t *testing.T) {
	r := rand.New(rand.NewSource(79))
	var l []api.Row
	for range 20 {
		l = append(l, anyRows(r)...)
	}
	want, wrong := mdoc.Parse(l...)
	var wait sync.WaitGroup
	for range 8 {
		wait.Go(func() {
			for range 50 {
				d, diags := mdoc.Parse(l...)
				if !tree.Same(d.Kids, want.Kids) || !slices.Equal(diags, wrong) {
					t.Error(d, diags)
				}
			}
		})
	}
	wait.Wait()
}
