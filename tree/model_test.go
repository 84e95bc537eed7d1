package tree_test

import (
	"math"
	"math/rand"
	"slices"
	"strings"
	"testing"

	"flong/api"
	"flong/tree"
)

// item is a node without its Kids, and within how many it stands: a list of them is a tree, told line by line.
type item struct {
	deep int
	x    api.Node
}

func outline(deep int, l []api.Node) []item {
	var out []item
	var down func(deep int, l []api.Node)
	down = func(deep int, l []api.Node) {
		for _, x := range l {
			kids := x.Kids
			x.Kids = nil
			out = append(out, item{deep, x})
			down(deep+1, kids)
		}
	}
	down(deep, l)
	return out
}

func unfolded(deep int, l []item) []api.Node {
	var out []api.Node
	for i, it := range l {
		if it.deep == deep {
			it.x.Kids = unfolded(deep+1, l[i+1:behind(l, i)])
			out = append(out, it.x)
		}
	}
	return out
}

// behind is where what is within the i-th item ends.
func behind(l []item, i int) int {
	end := i + 1
	for end < len(l) && l[end].deep > l[i].deep {
		end++
	}
	return end
}

// outer is the kind of what the i-th item stands within, or 0.
func outer(l []item, i int) int {
	for k := i - 1; k >= 0; k-- {
		if l[k].deep < l[i].deep {
			return l[k].x.Kind
		}
	}
	return 0
}

// model puts a tree right by going down its outline once, and leaving out what is without what it needs as long as there is any.
func model(nodes []api.Node) []api.Node {
	l := outline(0, nodes)
	for i := 0; i < len(l); i++ {
		if l[i].deep >= 20 {
			l = slices.Delete(l, i, behind(l, i))
			i--
			continue
		}
		heading, in := l[i].x.Kind == 1 || l[i].x.Kind == 2, outer(l, i)
		l[i].x = modelNode(l[i].x)
		end := behind(l, i)
		switch {
		case heading && (in != l[i].x.Kind-1 || len(l[i].x.Text) == 0):
			l[i].x.Kind = 3
			for k := i + 1; k < end; k++ {
				l[k].deep--
			}
		case !heading && l[i].x.Kind != 4 && l[i].x.Kind != 5:
			l = slices.Delete(l, i+1, end)
		}
	}
	for again := true; again; {
		again = false
		for i := len(l) - 1; i >= 0; i-- {
			if needs(l[i].x, behind(l, i) > i+1) {
				l, again = slices.Delete(l, i, i+1), true
			}
		}
	}
	return unfolded(0, l)
}

// needs is whether something that there must be is not there.
func needs(x api.Node, kids bool) bool {
	there := map[int]int{1: len(x.Text), 2: len(x.Text), 3: len(x.Text), 4: 1, 6: len(x.Rows), 7: len(x.Grid.Rows)}
	if kids {
		there[5] = 1
	}
	return there[x.Kind] == 0
}

// modelNode is what x may have of its own.
func modelNode(x api.Node) api.Node {
	y := api.Node{Kind: x.Kind, Line: clip(x.Line, 1<<40-1)}
	if x.Kind >= 1 && x.Kind <= 4 {
		y.Text = squeezed(x.Text)
	}
	if x.Kind == 4 || x.Kind == 5 {
		y.N = clip(x.N, 200)
	}
	if x.Kind == 6 {
		y.Rows = x.Rows
	}
	if x.Kind == 7 {
		y.Grid = modelTable(x.Grid)
	}
	return y
}

func clip(n, most int) int {
	switch {
	case n < 0:
		return 0
	case n > most:
		return most
	}
	return n
}

// squeezed puts together the words, with one blank between.
func squeezed(l []api.Glyph) []api.Glyph {
	var out []api.Glyph
	gap := false
	for _, g := range l {
		if g.R == 0x20 {
			gap = true
			continue
		}
		if gap && len(out) > 0 {
			out = append(out, api.Glyph{R: 0x20})
		}
		out, gap = append(out, g), false
	}
	return out
}

func modelTable(t api.Table) api.Table {
	cols := ""
	for i := range len(t.Cols) {
		if strings.IndexByte("lcr", t.Cols[i]) >= 0 && len(cols) < 20 {
			cols += t.Cols[i : i+1]
		}
	}
	if cols == "" {
		cols = "l"
	}
	m := api.Table{Cols: cols, Box: t.Box, All: t.All}
	if !t.Box {
		m.All = false
	}
	for _, r := range t.Rows {
		y := api.TableRow{Rule: r.Rule}
		for k := 0; k < len(cols) && !r.Rule; k++ {
			var cell []api.Glyph
			if k < len(r.Cells) {
				cell = squeezed(r.Cells[k])
			}
			y.Cells = append(y.Cells, cell)
		}
		m.Rows = append(m.Rows, y)
	}
	return m
}

func anyRow(r *rand.Rand) []api.Glyph {
	few := []rune{'a', 'b', 'c', ' ', ' ', ' ', api.Hard, '\t', 0x301, 0x4e00, -1}
	sets := []uint8{0, 0, 0, 1, 2, 3, 4, 255}
	var l []api.Glyph
	for range r.Intn(6) {
		l = append(l, api.Glyph{R: few[r.Intn(len(few))], S: sets[r.Intn(len(sets))]})
	}
	return l
}

func anyRows(r *rand.Rand) [][]api.Glyph {
	var l [][]api.Glyph
	for range r.Intn(4) {
		l = append(l, anyRow(r))
	}
	return l
}

func anyTable(r *rand.Rand) api.Table {
	parts := []string{"l", "c", "r", "lr", "x", " ", "L", "\u4e00", "\xff", strings.Repeat("c", 19), strings.Repeat("r", 20)}
	t := api.Table{Box: r.Intn(2) == 0, All: r.Intn(2) == 0}
	for range r.Intn(4) {
		t.Cols += parts[r.Intn(len(parts))]
	}
	for range r.Intn(4) {
		t.Rows = append(t.Rows, api.TableRow{Rule: r.Intn(4) == 0, Cells: anyRows(r)})
	}
	return t
}

func pick(r *rand.Rand, l ...int) int {
	return l[r.Intn(len(l))]
}

// anyNode has, mostly, what its kind may have, and now and then anything else.
func anyNode(r *rand.Rand, deep int) api.Node {
	x := api.Node{Kind: pick(r, 1, 1, 2, 2, 3, 3, 4, 5, 5, 6, 7, 1, 2, 3, 4, 5, 6, 7, 0, 8, -1, 1<<32+1)}
	odd := func() bool {
		return r.Intn(12) == 0
	}
	if odd() {
		x.Line = pick(r, -1, 1, api.MaxPlace, api.MaxPlace+1, math.MinInt, math.MaxInt)
	}
	if x.Kind == api.Tag || x.Kind == api.Indent || odd() {
		x.N = pick(r, 0, 1, 7, 200, 201, -1, math.MinInt, math.MaxInt)
	}
	if x.Kind >= api.Section && x.Kind <= api.Tag || odd() {
		x.Text = anyRow(r)
	}
	if x.Kind == api.Verb || odd() {
		x.Rows = anyRows(r)
	}
	if x.Kind == api.Grid || odd() {
		x.Grid = anyTable(r)
	}
	if x.Kind != api.Para && x.Kind < api.Verb || odd() {
		x.Kids = anyNodes(r, deep+1)
	}
	return x
}

func anyNodes(r *rand.Rand, deep int) []api.Node {
	var l []api.Node
	for range r.Intn(max(1, 5-deep)) {
		l = append(l, anyNode(r, deep))
	}
	// Now and then as deep as may be, or deeper, by nodes that have another within.
	if deep == 0 && r.Intn(4) == 0 {
		x := anyNode(r, 3)
		for range 15 + r.Intn(10) {
			x = api.Node{Kind: pick(r, 1, 2, 4, 4, 4, 4, 4, 4, 5, 5, 5, 5), Text: row("a"), Kids: []api.Node{x, anyNode(r, 9)}}
		}
		l = append(l, x)
	}
	return l
}

// leavesOf, countOf and deepOf are told from the outline.
func leavesOf(l []api.Node) []api.Glyph {
	var all []api.Glyph
	for _, it := range outline(0, l) {
		parts := append([][]api.Glyph{it.x.Text}, it.x.Rows...)
		for _, r := range it.x.Grid.Rows {
			parts = append(parts, r.Cells...)
		}
		all = append(all, slices.Concat(parts...)...)
	}
	return slices.DeleteFunc(all, func(g api.Glyph) bool { return g.R == 0x20 })
}

func headsOf(l []api.Node) []api.Head {
	var out []api.Head
	for _, it := range outline(0, l) {
		if it.x.Kind == 1 || it.x.Kind == 2 {
			out = append(out, api.Head{Level: it.x.Kind, Line: it.x.Line, Text: it.x.Text})
		}
	}
	return out
}

func deepOf(l []api.Node) int {
	most := 0
	for _, it := range outline(1, l) {
		most = max(most, it.deep)
	}
	return most
}

func checkOf(l []api.Node) api.Errno {
	switch {
	case len(outline(0, l)) > 20000 || deepOf(l) > 20:
		return api.ErrLong
	case !alike(model(l), l):
		return api.ErrArg
	}
	return api.OK
}

func TestTidyAnyTree(t *testing.T) {
	r := rand.New(rand.NewSource(31))
	for range 20000 {
		l := anyNodes(r, 0)
		got, want := tree.Tidy(doc(l...)), model(l)
		if !alike(got.Kids, want) {
			t.Fatalf("Tidy of %v: %v, want %v", l, got.Kids, want)
		}
		if e := tree.Check(got); e != api.OK {
			t.Fatalf("Tidy of %v is not right: %d", l, e)
		}
		if again := tree.Tidy(got); !alike(again.Kids, want) {
			t.Fatalf("Tidy of %v does not stay: %v", l, again.Kids)
		}
		if e := tree.Check(doc(l...)); e != checkOf(l) {
			t.Fatalf("Check of %v is %d, want %d", l, e, checkOf(l))
		}
	}
}

// What is right, but for one thing, is right no longer, if that thing may not be.
func TestCheckAlmostRight(t *testing.T) {
	r := rand.New(rand.NewSource(32))
	wrong := 0
	for range 60000 {
		l := tree.Tidy(doc(anyNodes(r, 1)...)).Kids
		spot(r, l)
		e := tree.Check(doc(l...))
		if e != checkOf(l) {
			t.Fatalf("Check of %v is %d, want %d", l, e, checkOf(l))
		}
		if e != api.OK {
			wrong++
		}
	}
	if wrong < 10000 {
		t.Error("too few are wrong to tell:", wrong)
	}
}

// spot changes one thing of one of these nodes, or of one within them.
func spot(r *rand.Rand, l []api.Node) {
	if len(l) == 0 {
		return
	}
	x := &l[r.Intn(len(l))]
	if len(x.Kids) > 0 && r.Intn(3) > 0 {
		spot(r, x.Kids)
		return
	}
	y := anyNode(r, 3)
	changes := []func(){
		func() { x.Kind = y.Kind },
		func() { x.Line = y.Line },
		func() { x.N = y.N },
		func() { x.Text = anyRow(r) },
		func() { x.Kids = y.Kids },
		func() { x.Rows = anyRows(r) },
		func() { x.Grid = anyTable(r) },
	}
	changes[r.Intn(len(changes))]()
}

func TestTellAnyTree(t *testing.T) {
	r := rand.New(rand.NewSource(33))
	var last []api.Node
	for range 10000 {
		l := anyNodes(r, 0)
		if n := tree.Count(l...); n != len(outline(0, l)) {
			t.Fatalf("Count of %v is %d", l, n)
		}
		if n := tree.Deep(l...); n != deepOf(l) {
			t.Fatalf("Deep of %v is %d", l, n)
		}
		if got, want := tree.Leaves(l...), leavesOf(l); !slices.Equal(got, want) {
			t.Fatalf("Leaves of %v: %v, want %v", l, got, want)
		}
		if got, want := tree.Heads(l...), headsOf(l); !headsEqual(got, want) {
			t.Fatalf("Heads of %v: %v, want %v", l, got, want)
		}
		if !tree.Same(l, cloned(l)) || tree.Same(l, last) != alike(l, last) {
			t.Fatalf("Same of %v, %v", l, last)
		}
		changed := cloned(l)
		spot(r, changed)
		if tree.Same(l, changed) != alike(l, changed) || tree.Same(changed, l) != alike(l, changed) {
			t.Fatalf("Same of %v, %v", l, changed)
		}
		last = l
	}
}

func TestAnyTable(t *testing.T) {
	r := rand.New(rand.NewSource(34))
	for range 60000 {
		x := anyTable(r)
		got, want := tree.Mend(x), modelTable(x)
		if !tablesAlike(got, want) || !tree.Right(got) || !tablesAlike(tree.Mend(got), got) {
			t.Fatalf("Mend of %v: %v, want %v", x, got, want)
		}
		if tree.Right(x) != tablesAlike(x, want) || tree.SameTable(x, want) != tablesAlike(x, want) {
			t.Fatalf("Right of %v is %v", x, tree.Right(x))
		}
		l := anyRow(r)
		if tree.Squeezed(l) != slices.Equal(l, squeezed(l)) {
			t.Fatalf("Squeezed of %v is %v", l, tree.Squeezed(l))
		}
	}
}

// No text is lost, doubled or moved, but of what is left out: here nothing is.
func TestNoTextIsLost(t *testing.T) {
	r := rand.New(rand.NewSource(35))
	for range 20000 {
		l := keepers(r, 0)
		if got, want := tree.Leaves(tree.Tidy(doc(l...)).Kids...), tree.Leaves(l...); !slices.Equal(got, want) {
			t.Fatalf("Tidy of %v has the leaves %v, want %v", l, got, want)
		}
	}
}

// keepers is nodes that have nothing but what their kind may have.
func keepers(r *rand.Rand, deep int) []api.Node {
	var l []api.Node
	for range r.Intn(6 - deep) {
		x := api.Node{Kind: 1 + r.Intn(6), Line: pick(r, -1, 5, math.MaxInt), Text: anyRow(r)}
		switch x.Kind {
		case api.Verb:
			x.Text, x.Rows = nil, anyRows(r)
		case api.Indent:
			x.Text = nil
			fallthrough
		case api.Section, api.Sub, api.Tag:
			x.N, x.Kids = pick(r, -1, 5, 201), keepers(r, deep+1)
		}
		l = append(l, x)
	}
	return l
}
