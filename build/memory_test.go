package build_test

import (
	"math/rand"
	"slices"
	"testing"

	"flong/api"
	"flong/build"
	"flong/tree"
)

// places is where anything of a list, or of the room behind it, stands.
type places map[any]bool

// shared notes where a list's stand, and tells whether any stood there already.
func shared[T any](p places, l []T) bool {
	twice := false
	l = l[:cap(l)]
	for i := range l {
		twice = twice || p[&l[i]]
		p[&l[i]] = true
	}
	return twice
}

func sharedRows(p places, l [][]api.Glyph) bool {
	twice := shared(p, l)
	for _, row := range l {
		twice = shared(p, row) || twice
	}
	return twice
}

func sharedNodes(p places, l []api.Node) bool {
	twice := shared(p, l)
	for _, x := range l {
		twice = shared(p, x.Text) || twice
		twice = sharedRows(p, x.Rows) || twice
		twice = shared(p, x.Grid.Rows) || twice
		for _, r := range x.Grid.Rows {
			twice = sharedRows(p, r.Cells) || twice
		}
		twice = sharedNodes(p, x.Kids) || twice
	}
	return twice
}

// withRoom is l, with somebody's memory behind it.
func withRoom[T any](l []T, more T) []T {
	return append(slices.Clone(l), more, more)[:len(l)]
}

func clonedRow(l []api.Glyph) []api.Glyph {
	return withRoom(l, api.Glyph{R: '!'})
}

func clonedRows(l [][]api.Glyph) [][]api.Glyph {
	out := withRoom(l, row("!"))
	for i := range out {
		out[i] = clonedRow(out[i])
	}
	return out
}

// cloned is x in memory of its own, with somebody's behind each list.
func cloned(x api.Node) api.Node {
	x.Text, x.Rows = clonedRow(x.Text), clonedRows(x.Rows)
	x.Grid.Rows = withRoom(x.Grid.Rows, api.TableRow{Rule: true})
	for i, r := range x.Grid.Rows {
		x.Grid.Rows[i].Cells = clonedRows(r.Cells)
	}
	x.Kids = withRoom(x.Kids, para(1, "!"))
	for i, kid := range x.Kids {
		x.Kids[i] = cloned(kid)
	}
	return x
}

// behind is what stands in the room behind l that withRoom made.
func behind[T any](l []T) []T {
	return l[len(l) : len(l)+2]
}

func rowRoomStays(l []api.Glyph) bool {
	return slices.Equal(behind(l), row("!!"))
}

func rowsRoomStays(l [][]api.Glyph) bool {
	stays := slices.EqualFunc(behind(l), rows("!", "!"), slices.Equal[[]api.Glyph])
	for _, row := range l {
		stays = stays && rowRoomStays(row)
	}
	return stays
}

// roomStays is whether all is there that cloned put behind x's lists.
func roomStays(x api.Node) bool {
	stays := rowRoomStays(x.Text) && rowsRoomStays(x.Rows) && tree.Same(behind(x.Kids), []api.Node{para(1, "!"), para(1, "!")})
	for _, r := range behind(x.Grid.Rows) {
		stays = stays && r.Rule && len(r.Cells) == 0
	}
	for _, r := range x.Grid.Rows {
		stays = stays && rowsRoomStays(r.Cells)
	}
	for _, kid := range x.Kids {
		stays = stays && roomStays(kid)
	}
	return stays
}

// spoil changes all that x has, and what stands behind its lists.
func spoil(x *api.Node) {
	spoilRow(x.Text)
	spoilRows(x.Rows)
	for i, r := range x.Grid.Rows {
		spoilRows(r.Cells)
		x.Grid.Rows[i] = api.TableRow{Rule: true}
	}
	for i := range x.Kids {
		spoil(&x.Kids[i])
	}
	for i := range x.Kids[:cap(x.Kids)] {
		x.Kids[:cap(x.Kids)][i] = para(99, "spoilt")
	}
}

func spoilRow(l []api.Glyph) {
	l = l[:cap(l)]
	for i := range l {
		l[i] = api.Glyph{R: '?', S: bold}
	}
}

func spoilRows(l [][]api.Glyph) {
	for i, row := range l {
		spoilRow(row)
		l[i] = row[:0]
	}
}

// tell tells a builder some, from memory with room behind it; what was handed in comes out.
func tell(r *rand.Rand, b *build.Builder, n int) ([]api.Node, [][]api.Glyph) {
	var nodes []api.Node
	var texts [][]api.Glyph
	for range n {
		switch x, l := cloned(anyNode(r, 0)), clonedRow(anyRow(r)); r.Intn(4) {
		case 0:
			b.Open(x)
			nodes = append(nodes, x)
		case 1:
			b.Add(x)
			nodes = append(nodes, x)
		case 2:
			b.Text(l, 1)
			texts = append(texts, l)
		default:
			b.Close(anyKind(r))
		}
	}
	return nodes, texts
}

// What is handed in is neither changed nor kept: what becomes of it later is nothing to the builder.
func TestNothingIsKept(t *testing.T) {
	for seed := range int64(2000) {
		same := func() (*build.Builder, []api.Node, [][]api.Glyph) {
			b := build.New()
			nodes, texts := tell(rand.New(rand.NewSource(seed)), b, 12)
			return b, nodes, texts
		}
		b, nodes, texts := same()
		_, fresh, freshTexts := same()
		if !tree.Same(nodes, fresh) || !slices.EqualFunc(texts, freshTexts, slices.Equal[[]api.Glyph]) {
			t.Fatal("what was handed in was changed")
		}
		want := b.Doc().Kids
		for i := range nodes {
			if !roomStays(nodes[i]) {
				t.Fatal("what stands behind what was handed in was changed")
			}
			spoil(&nodes[i])
		}
		for _, l := range texts {
			if !rowRoomStays(l) {
				t.Fatal("what stands behind a text was changed")
			}
			spoilRow(l)
		}
		told(t, "what was handed in was changed later", b, want...)
		if t.Failed() {
			t.FailNow()
		}
	}
}

// Kinds are not changed, either.
func TestKindsStay(t *testing.T) {
	kinds := []int{api.Tag, api.Indent, api.Section}
	b := build.New()
	b.Open(section("S"))
	b.Open(indent(1))
	b.Shut(kinds...)
	if !slices.Equal(kinds, []int{api.Tag, api.Indent, api.Section}) {
		t.Error(kinds)
	}
}

// What comes out is new memory: no two lists share any, be it in one answer, in two, or in one and what was handed in.
func TestNothingIsShared(t *testing.T) {
	r := rand.New(rand.NewSource(44))
	for range 1000 {
		b, p := build.New(), places{}
		for range 3 {
			nodes, texts := tell(r, b, 6)
			twice := sharedRows(p, texts)
			for i := range nodes {
				twice = sharedNodes(p, nodes[i:i+1:i+1]) || twice
			}
			if twice {
				t.Fatal("what is handed in shares some")
			}
			if sharedNodes(p, b.Doc().Kids) || sharedNodes(p, b.Doc().Kids) {
				t.Fatal("some is shared")
			}
		}
	}
}

// What becomes of an answer is nothing to the builder, nor to another answer.
func TestAnswersAreTheirOwn(t *testing.T) {
	r := rand.New(rand.NewSource(45))
	for range 2000 {
		b := build.New()
		tell(r, b, 12)
		answer, spoilt := b.Doc(), b.Doc()
		want := cloned(api.Node{Kids: answer.Kids}).Kids
		for i := range spoilt.Kids {
			spoil(&spoilt.Kids[i])
		}
		told(t, "another answer was changed", b, want...)
		tell(r, b, 4)
		b.Doc()
		if t.Failed() || !tree.Same(answer.Kids, want) {
			t.Fatal("an answer was changed later")
		}
	}
}
