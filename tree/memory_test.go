package tree_test

import (
	"cmp"
	"math/rand"
	"slices"
	"testing"
	"unsafe"

	"flong/api"
	"flong/tree"
)

// span is the memory of a list, with the room behind it.
type span struct {
	from, to uintptr
}

// spans is the memory of lists.
type spans []span

func (s *spans) add(from unsafe.Pointer, size uintptr) {
	if size > 0 {
		*s = append(*s, span{uintptr(from), uintptr(from) + size})
	}
}

func addList[T any](s *spans, l []T) {
	var x T
	s.add(unsafe.Pointer(unsafe.SliceData(l)), uintptr(cap(l))*unsafe.Sizeof(x))
}

func (s *spans) rows(l [][]api.Glyph) {
	addList(s, l)
	for _, row := range l {
		addList(s, row)
	}
}

func (s *spans) table(t api.Table) {
	addList(s, t.Rows)
	for _, r := range t.Rows {
		s.rows(r.Cells)
	}
}

func (s *spans) nodes(l []api.Node) {
	addList(s, l)
	for _, x := range l {
		addList(s, x.Text)
		s.rows(x.Rows)
		s.table(x.Grid)
		s.nodes(x.Kids)
	}
}

func (s *spans) heads(l []api.Head) {
	addList(s, l)
	for _, x := range l {
		addList(s, x.Text)
	}
}

// shared is whether any two have memory in common.
func (s *spans) shared() bool {
	l := slices.Clone(*s)
	slices.SortFunc(l, func(a, b span) int { return cmp.Compare(a.from, b.from) })
	for i := range l {
		if i > 0 && l[i].from < l[i-1].to {
			return true
		}
	}
	return false
}

// held keeps what is compared where it is.
var held []any

// withRoom is l, with somebody's memory behind it.
func withRoom[T any](l []T, more T) []T {
	return append(slices.Clone(l), more, more)[:len(l)]
}

// room is what stands behind l, that withRoom made.
func room[T any](l []T) []T {
	return l[len(l) : len(l)+2]
}

func clonedRow(l []api.Glyph) []api.Glyph {
	return withRoom(l, api.Glyph{R: '!'})
}

func clonedRows(l [][]api.Glyph) [][]api.Glyph {
	out := withRoom(l, row("!"))
	for i := range out {
		out[i] = clonedRow(out[i])
	}
	return out
}

func clonedTable(t api.Table) api.Table {
	t.Rows = withRoom(t.Rows, cellsOf("!"))
	for i := range t.Rows {
		t.Rows[i].Cells = clonedRows(t.Rows[i].Cells)
	}
	return t
}

// cloned is l in memory of its own, with somebody's behind each list.
func cloned(l []api.Node) []api.Node {
	out := withRoom(l, para("!"))
	for i, x := range out {
		out[i].Text, out[i].Kids, out[i].Rows, out[i].Grid = clonedRow(x.Text), cloned(x.Kids), clonedRows(x.Rows), clonedTable(x.Grid)
	}
	return out
}

// roomStays is whether all that cloned put behind lists is there.
func roomStays(l []api.Node) bool {
	stays := alike(room(l), []api.Node{para("!"), para("!")})
	keep := func(l []api.Glyph) {
		stays = stays && slices.Equal(room(l), row("!!"))
	}
	keepRows := func(l [][]api.Glyph) {
		stays = stays && slices.EqualFunc(room(l), rows("!", "!"), slices.Equal[[]api.Glyph])
		for _, row := range l {
			keep(row)
		}
	}
	for _, x := range l {
		keep(x.Text)
		keepRows(x.Rows)
		stays = stays && tablesAlike(api.Table{Rows: room(x.Grid.Rows)}, table("", cellsOf("!"), cellsOf("!")))
		for _, r := range x.Grid.Rows {
			keepRows(r.Cells)
		}
		stays = stays && roomStays(x.Kids)
	}
	return stays
}

// roomy is everything, and some that is not right, with a memory behind each list.
func roomy() []api.Node {
	return cloned(append(everything(),
		sub(" x  y ", section("z", para(" 1"))),
		section("2", section("3", tag(-1, "4 ", indent(300, verb("5", ""), grid(table("xl", cellsOf("6  7"), cellsOf(), rule())))))),
		section(" ", indent(1, para("8"), api.Node{Kind: 9}, para("9"))),
		verb("  a", "b"), grid(api.Table{Rows: []api.TableRow{cellsOf("c"), cellsOf("d", "e")}}),
	))
}

// What comes out is new memory: no two lists share any, be it in one answer, in two, or in one and what was handed in.
func TestNothingIsShared(t *testing.T) {
	r := rand.New(rand.NewSource(37))
	trees := [][]api.Node{roomy(), everything(), cloned(everything()), tree.Tidy(doc(roomy()...)).Kids}
	for range 2000 {
		trees = append(trees, cloned(anyNodes(r, 0)), keepers(r, 0))
	}
	for _, l := range trees {
		var s spans
		held = []any{l}
		s.nodes(l)
		if s.shared() {
			t.Fatal("what is handed in shares some")
		}
		for range 2 {
			kids, leaves, heads := tree.Tidy(doc(l...)).Kids, tree.Leaves(l...), tree.Heads(l...)
			held = append(held, kids, leaves, heads)
			s.nodes(kids)
			addList(&s, leaves)
			s.heads(heads)
			for _, x := range l {
				mended := tree.Mend(x.Grid)
				held = append(held, mended)
				s.table(mended)
			}
		}
		if s.shared() {
			t.Fatalf("of %v some is shared", l)
		}
	}
	held = nil
}

// No call changes what it is given, nor what stands behind it.
func TestNothingIsChanged(t *testing.T) {
	r := rand.New(rand.NewSource(36))
	for range 5000 {
		l := anyNodes(r, 0)
		given := cloned(l)
		tree.Count(given...)
		tree.Deep(given...)
		tree.Check(doc(given...))
		tree.Tidy(doc(given...))
		tree.Same(given, given)
		tree.Leaves(given...)
		tree.Heads(given...)
		for _, x := range given {
			tree.Right(x.Grid)
			tree.Mend(x.Grid)
			tree.SameTable(x.Grid, x.Grid)
			tree.Squeezed(x.Text)
		}
		if !alike(given, l) || !roomStays(given) {
			t.Fatalf("%v was changed: %v", l, given)
		}
	}
}
