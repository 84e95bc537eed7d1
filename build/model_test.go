package build_test

import (
	"math/rand"
	"slices"
	"testing"

	"flong/api"
	"flong/build"
	"flong/cells"
	"flong/tree"
)

// item is a node without its Kids, and within how many it stands: a list of them is a tree, told line by line.
type item struct {
	deep int
	x    api.Node
}

// model tells a document as an outline: to close a node is to go on less deep, and changes nothing of what was told.
type model struct {
	outline []item
	kinds   []int // of what is open
	begun   bool
	line    int
	text    []api.Glyph
}

func (m *model) end() {
	if slices.ContainsFunc(m.text, func(g api.Glyph) bool { return g.R != 0x20 }) {
		m.take(len(m.kinds), api.Node{Kind: 3, Line: m.line, Text: m.text})
	}
	m.begun, m.text = false, nil
}

func (m *model) take(deep int, x api.Node) {
	kids := x.Kids
	x.Kids = nil
	m.outline = append(m.outline, item{deep, x})
	for _, kid := range kids {
		m.take(deep+1, kid)
	}
}

func (m *model) add(x api.Node) {
	m.end()
	m.take(len(m.kinds), x)
}

func (m *model) open(x api.Node) {
	m.add(x)
	m.kinds = append(m.kinds, x.Kind)
}

func (m *model) put(l []api.Glyph, line int) {
	if !m.begun {
		m.begun, m.line = true, line
	}
	if len(m.text) > 0 && len(l) > 0 {
		m.text = append(m.text, api.Glyph{R: 0x20})
	}
	m.text = append(m.text, l...)
}

func (m *model) close(kind int) bool {
	m.end()
	for n := len(m.kinds); n > 0; n-- {
		if m.kinds[n-1] == kind {
			m.kinds = m.kinds[:n-1]
			return true
		}
	}
	return false
}

func (m *model) shut(kinds ...int) {
	m.end()
	for len(m.kinds) > 0 && slices.Contains(kinds, m.kinds[len(m.kinds)-1]) {
		m.kinds = m.kinds[:len(m.kinds)-1]
	}
}

func (m model) nodes() []api.Node {
	m.outline = slices.Clip(m.outline)
	m.end()
	return unfolded(0, m.outline)
}

func unfolded(deep int, l []item) []api.Node {
	var out []api.Node
	for i, it := range l {
		if it.deep != deep {
			continue
		}
		end := i + 1
		for end < len(l) && l[end].deep > deep {
			end++
		}
		it.x.Kids = unfolded(deep+1, l[i+1:end])
		out = append(out, it.x)
	}
	return out
}

func anyRow(r *rand.Rand) []api.Glyph {
	few := []rune{'a', 'b', 'c', ' ', ' ', api.Hard, '\t', 0x301, 0x4e00, -1}
	sets := []uint8{0, 0, 0, 1, 2, 3, 255}
	var l []api.Glyph
	for range r.Intn(5) {
		l = append(l, api.Glyph{R: few[r.Intn(len(few))], S: sets[r.Intn(len(sets))]})
	}
	return l
}

func anyRows(r *rand.Rand) [][]api.Glyph {
	var l [][]api.Glyph
	for range r.Intn(4) {
		l = append(l, anyRow(r))
	}
	return l
}

func anyKind(r *rand.Rand) int {
	kinds := []int{1, 1, 1, 2, 2, 2, 4, 4, 4, 5, 5, 5, 3, 6, 7, 0, 8, -1}
	return kinds[r.Intn(len(kinds))]
}

// anyNode has what any kind may have.
func anyNode(r *rand.Rand, deep int) api.Node {
	x := api.Node{Kind: anyKind(r), Line: r.Intn(30), N: r.Intn(9), Text: anyRow(r), Rows: anyRows(r)}
	x.Grid = api.Table{Cols: "lr"[:r.Intn(3)], Box: r.Intn(2) == 0, All: r.Intn(2) == 0}
	for range r.Intn(3) {
		x.Grid.Rows = append(x.Grid.Rows, api.TableRow{Rule: r.Intn(4) == 0, Cells: anyRows(r)})
	}
	for range r.Intn(3 - deep) {
		x.Kids = append(x.Kids, anyNode(r, deep+1))
	}
	return x
}

// step tells both the same.
func step(t *testing.T, r *rand.Rand, b *build.Builder, m *model) {
	t.Helper()
	switch r.Intn(12) {
	case 0, 1, 2, 3:
		l, line := anyRow(r), r.Intn(30)
		b.Text(l, line)
		m.put(l, line)
	case 4, 5, 6:
		x := anyNode(r, r.Intn(3))
		b.Open(x)
		m.open(x)
	case 7, 8:
		x := anyNode(r, 0)
		b.Add(x)
		m.add(x)
	case 9:
		kind := anyKind(r)
		if got, want := b.Close(kind), m.close(kind); got != want {
			t.Errorf("Close of %d is %v", kind, got)
		}
	case 10:
		kinds := make([]int, r.Intn(5))
		for i := range kinds {
			kinds[i] = anyKind(r)
		}
		b.Shut(kinds...)
		m.shut(kinds...)
	default:
		b.End()
		m.end()
	}
}

func TestAnySteps(t *testing.T) {
	r := rand.New(rand.NewSource(41))
	for range 3000 {
		b, m := build.New(), model{}
		for range r.Intn(40) {
			step(t, r, b, &m)
			stands(t, "any steps", b, len(m.kinds), m.kinds...)
			if r.Intn(4) == 0 {
				told(t, "any steps, on the way", b, tree.Tidy(api.Doc{Kids: m.nodes()}).Kids...)
			}
		}
		told(t, "any steps", b, tree.Tidy(api.Doc{Kids: m.nodes()}).Kids...)
		if e := tree.Check(b.Doc()); e != api.OK {
			t.Fatal("what is told may not be", e)
		}
		if t.Failed() {
			t.FailNow()
		}
	}
}

// All text that was told is there, in order: here nothing is told that Tidy leaves out.
func TestNoTextIsLost(t *testing.T) {
	r := rand.New(rand.NewSource(42))
	for range 5000 {
		b := build.New()
		var all []api.Glyph
		say := func(l []api.Glyph) []api.Glyph {
			for _, g := range l {
				if g.R != 0x20 {
					all = append(all, g)
				}
			}
			return l
		}
		for i := range r.Intn(60) {
			kind := 1 + r.Intn(5)
			switch r.Intn(8) {
			case 0, 1, 2:
				b.Text(say(anyRow(r)), i)
			case 3:
				if kind != api.Indent {
					b.Add(api.Node{Kind: kind, Line: i, Text: say(anyRow(r))})
				}
			case 4:
				b.Add(api.Node{Kind: api.Verb, Line: i, Rows: [][]api.Glyph{say(anyRow(r)), say(anyRow(r))}})
			case 5:
				if x := (api.Node{Kind: kind, Line: i}); kind != api.Para && b.Depth() < 19 {
					if kind != api.Indent {
						x.Text = say(anyRow(r))
					}
					b.Open(x)
				}
			case 6:
				b.Close(kind)
			default:
				b.Shut(kind, 1+r.Intn(5))
			}
		}
		if got := tree.Leaves(b.Doc().Kids...); !slices.Equal(got, all) {
			t.Fatalf("%q, want %q", cells.Text(got...), cells.Text(all...))
		}
	}
}
