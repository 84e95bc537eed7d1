package man_test

import (
	"math/rand"
	"regexp"
	"slices"
	"strconv"
	"strings"
	"testing"

	"flong/api"
	"flong/cells"
	"flong/escape"
	"flong/lines"
	"flong/man"
	"flong/styles"
	"flong/tbl"
	"flong/tree"
)

// item is a node without its Kids, and within how many it stands: a list of them is a tree, told line by line.
type item struct {
	deep int
	x    api.Node
}

// model tells a document as an outline, from rows that stand in front of it all at once: of what waits, or goes on, the end is sought ahead.
type model struct {
	rows    []api.Row
	title   []string
	outline []item
	kinds   []int // of what is open
	text    []api.Glyph
	line    int // where the text began, if it did
	begun   bool
	diags   []api.Diag
}

// faces is how the macros of lines set their arguments, in turn.
var faces = map[string][]uint8{
	"B": {1}, "I": {2}, "BI": {1, 2}, "BR": {1, 0}, "IB": {2, 1}, "IR": {2, 0}, "RB": {0, 1}, "RI": {0, 2},
}

// modelSet is the glyphs of a text, from a face on.
func modelSet(now uint8, s string) ([]api.Glyph, []api.Diag) {
	was := now
	tokens, diags := escape.Scan(s)
	var out []api.Glyph
	for _, x := range tokens {
		switch {
		case x.Kind == api.Space:
			out = append(out, api.Glyph{R: 0x20})
		case x.Kind == api.Char:
			out = append(out, api.Glyph{R: x.R, S: now})
		case x.R == 4:
			now, was = was, now
		default:
			now, was = uint8(x.R), now
		}
	}
	return out, diags
}

// modelArgs is the glyphs of arguments, set in turn, with a blank between if all are set alike.
func modelArgs(sets []uint8, args []string) ([]api.Glyph, []api.Diag) {
	var out []api.Glyph
	var diags []api.Diag
	for i, s := range args {
		l, wrong := modelSet(sets[i%len(sets)], s)
		diags = append(diags, wrong...)
		if len(l) > 0 && len(out) > 0 && len(sets) == 1 {
			out = append(out, api.Glyph{R: 0x20})
		}
		out = append(out, l...)
	}
	return out, diags
}

// number is every way a number may be.
var number = regexp.MustCompile(`^([0-9]{1,6})n?$`)

func modelNumber(s string) (int, bool) {
	m := number.FindStringSubmatch(s)
	if m == nil {
		return 7, false
	}
	n, _ := strconv.Atoi(m[1])
	return min(n, 200), true
}

func (m *model) tell(kind int, i int) {
	m.diags = append(m.diags, at(kind, m.rows[i].Line))
}

// inline is the glyphs of the row i, and whether it is one of glyphs; empty is whether it should have some, but has no arguments.
func (m *model) inline(i int) (l []api.Glyph, is bool, empty bool) {
	x := m.rows[i]
	var wrong []api.Diag
	switch sets, ok := faces[x.Macro]; {
	case x.Macro == "":
		l, wrong = modelSet(0, x.Text)
	case !ok:
		return nil, false, false
	case len(x.Args) == 0:
		m.tell(api.BadArgs, i)
		return nil, true, true
	default:
		l, wrong = modelArgs(sets, x.Args)
	}
	for _, d := range wrong {
		m.diags = append(m.diags, in(d.Kind, x.Line, d.Col))
	}
	return l, true, false
}

// args is the glyphs of some of the row i's arguments.
func (m *model) args(i int, args []string) []api.Glyph {
	l, wrong := modelArgs([]uint8{0}, args)
	for _, d := range wrong {
		m.diags = append(m.diags, in(d.Kind, m.rows[i].Line, d.Col))
	}
	return l
}

func (m *model) number(i int, arg int) int {
	x := m.rows[i]
	if len(x.Args) <= arg {
		return 7
	}
	n, ok := modelNumber(x.Args[arg])
	if !ok {
		m.tell(api.BadArgs, i)
	}
	return n
}

func (m *model) end() {
	for _, g := range m.text {
		if g.R != 0x20 {
			m.outline = append(m.outline, item{len(m.kinds), api.Node{Kind: 3, Line: m.line, Text: m.text}})
			break
		}
	}
	m.begun, m.text = false, nil
}

func (m *model) add(x api.Node) {
	m.end()
	m.outline = append(m.outline, item{len(m.kinds), x})
}

func (m *model) open(x api.Node, i int) {
	if len(m.kinds) == 20 {
		m.tell(api.TooDeep, i)
		return
	}
	m.add(x)
	m.kinds = append(m.kinds, x.Kind)
}

// shut shuts all that is within the first open node that is none of these.
func (m *model) shut(kinds ...int) {
	m.end()
	for n := len(m.kinds); n > 0 && slices.Contains(kinds, m.kinds[n-1]); n-- {
		m.kinds = m.kinds[:n-1]
	}
}

// step tells the row i, and what is its; it is where the next one stands.
func (m *model) step(i int) int {
	x := m.rows[i]
	if l, is, empty := m.inline(i); is {
		m.say(l, x, empty)
		return i + 1
	}
	node := api.Node{Line: x.Line}
	switch x.Macro {
	case "TH":
		if m.title != nil {
			m.tell(api.NotHere, i)
			break
		}
		m.title = append(slices.Clone(x.Args), "", "", "", "")[:4]
	case "SH", "SS":
		node.Kind = map[string]int{"SH": 1, "SS": 2}[x.Macro]
		m.shut([]int{1, 2, 4, 5}[node.Kind-1:]...)
		if len(x.Args) == 0 {
			return m.wait(node, i)
		}
		node.Text = m.args(i, x.Args)
		m.open(node, i)
	case "PP", "P", "LP":
		m.shut(4)
	case "TP":
		m.shut(4)
		node.Kind, node.N = 4, m.number(i, 0)
		return m.wait(node, i)
	case "IP":
		m.shut(4)
		node.Kind = 4
		if len(x.Args) > 0 {
			node.Text = m.args(i, x.Args[:1])
		}
		node.N = m.number(i, 1)
		m.open(node, i)
	case "RS":
		node.Kind, node.N = 5, m.number(i, 0)
		m.open(node, i)
	case "RE":
		m.end()
		n := len(m.kinds)
		for n > 0 && m.kinds[n-1] != 5 {
			n--
		}
		if n == 0 {
			m.tell(api.NotOpen, i)
			break
		}
		m.kinds = m.kinds[:n-1]
	case "EE", "fi", "TE":
		m.tell(api.NotOpen, i)
	case "EX", "nf":
		return m.verb(node, i)
	case "TS":
		return m.grid(node, i)
	default:
		m.tell(api.BadMacro, i)
	}
	return i + 1
}

// say tells a row's glyphs, that nothing waited for.
func (m *model) say(l []api.Glyph, x api.Row, empty bool) {
	if empty {
		return
	}
	if x.Macro == "" && strings.Trim(cells.Text(l...), " ") == "" {
		m.end()
		return
	}
	if !m.begun {
		m.begun, m.line = true, x.Line
	}
	if len(m.text) > 0 && len(l) > 0 {
		m.text = append(m.text, api.Glyph{R: 0x20})
	}
	m.text = append(m.text, l...)
}

// wait opens x of the row i with the next row of glyphs, if nothing stands between.
func (m *model) wait(x api.Node, i int) int {
	for k := i + 1; k < len(m.rows); k++ {
		l, is, empty := m.inline(k)
		switch {
		case empty:
		case is:
			x.Text = l
			m.open(x, i)
			return k + 1
		default:
			m.tell(api.BadArgs, i)
			return k
		}
	}
	m.tell(api.BadArgs, i)
	return len(m.rows)
}

// behind is where the first of these macros stands behind the row i, and whether any does.
func (m *model) behind(i int, macros ...string) (int, bool) {
	n := slices.IndexFunc(m.rows[i+1:], func(x api.Row) bool { return slices.Contains(macros, x.Macro) })
	if n < 0 {
		return len(m.rows), false
	}
	return i + 1 + n, true
}

func (m *model) verb(x api.Node, i int) int {
	end, ok := m.behind(i, "EE", "fi")
	x.Kind = 6
	for k := i + 1; k < end; k++ {
		switch l, is, empty := m.inline(k); {
		case empty:
		case is:
			x.Rows = append(x.Rows, l)
		default:
			m.tell(api.NotHere, k)
		}
	}
	if !ok {
		m.tell(api.NotClosed, i)
	}
	m.add(x)
	return end + 1
}

func (m *model) grid(x api.Node, i int) int {
	end, ok := m.behind(i, "TE")
	x.Kind = 7
	var texts []string
	for k := i + 1; k < end; k++ {
		if m.rows[k].Macro != "" {
			m.tell(api.NotHere, k)
			continue
		}
		texts = append(texts, m.rows[k].Text)
	}
	if !ok {
		m.tell(api.NotClosed, i)
	}
	t, wrong := tbl.Parse(x.Line+1, texts...)
	x.Grid = t
	m.diags = append(m.diags, wrong...)
	m.add(x)
	return end + 1
}

// doc is the document, and what is wrong.
func (m *model) doc() (api.Doc, []api.Diag) {
	for i := 0; i < len(m.rows); {
		i = m.step(i)
	}
	m.end()
	d := api.Doc{Kids: unfolded(0, m.outline)}
	if m.title == nil {
		m.diags = append(m.diags, at(api.NoTitle, 0))
	} else {
		d.Name, d.Part, d.Date, d.Source = m.title[0], m.title[1], m.title[2], m.title[3]
	}
	return tree.Tidy(d), m.diags
}

func unfolded(deep int, l []item) []api.Node {
	var out []api.Node
	for i, it := range l {
		if it.deep != deep {
			continue
		}
		end := i + 1
		for end < len(l) && l[end].deep > deep {
			end++
		}
		it.x.Kids = unfolded(deep+1, l[i+1:end])
		out = append(out, it.x)
	}
	return out
}

func oneOf(r *rand.Rand, l ...string) string {
	return l[r.Intn(len(l))]
}

// some is up to n of parts, one behind the other.
func some(r *rand.Rand, n int, parts ...string) string {
	var s strings.Builder
	for range r.Intn(n + 1) {
		s.WriteString(oneOf(r, parts...))
	}
	return s.String()
}

func anyArg(r *rand.Rand) string {
	switch r.Intn(3) {
	case 0:
		return oneOf(r, "", "0", "3", "2n", "200", "201", "999999n", "1000000", "n", "-1", "x")
	}
	return some(r, 4, "a", "b", "c", " ", `\fB`, `\fI`, `\fP`, `\q`, `\(zz`, `\[u0020]`, `\ `, `\&`, "\x01", "\u4e00", "\u0301", "\xff")
}

func anyText(r *rand.Rand) string {
	switch r.Intn(4) {
	case 0:
		return ""
	case 1:
		return oneOf(r, " ", "\t", `\&`, "box;", "l r.", "x.", "a\tb", "a\tT{", "T}", "_", "T}\tc", ".", "'", ".B")
	}
	return some(r, 6, "a", "b", "c", " ", " ", `\fB`, `\fI`, `\fP`, `\q`, `\(zz`, `\[u0020]`, `\ `, "\x01", "\u4e00", "\u0301", "\xff")
}

func anyRow(r *rand.Rand, line int) api.Row {
	x := api.Row{Line: line}
	switch r.Intn(8) {
	case 0, 1, 2:
		x.Text = anyText(r)
		return x
	case 3:
		x.Macro = oneOf(r, "B", "I", "BI", "BR", "IB", "IR", "RB", "RI")
	case 4:
		x.Macro = oneOf(r, "TH", "SH", "SH", "SS", "SS", "EX", "nf", "TS", "zz", "BB", "sh", "R")
	case 5:
		x.Macro = oneOf(r, "EE", "fi", "TE", "TE")
	default:
		x.Macro = oneOf(r, "PP", "P", "LP", "TP", "TP", "IP", "IP", "RS", "RS", "RE")
	}
	for range r.Intn(4) {
		x.Args = append(x.Args, anyArg(r))
	}
	return x
}

func anyRows(r *rand.Rand) []api.Row {
	var l []api.Row
	for r.Intn(6) == 0 && len(l) < 25 {
		for range 15 + r.Intn(8) {
			l = append(l, macro(len(l), oneOf(r, "RS", "RS", "RS", "IP"), anyArg(r)))
		}
	}
	for range r.Intn(30) {
		l = append(l, anyRow(r, len(l)))
	}
	return l
}

func TestParseAnyRows(t *testing.T) {
	r := rand.New(rand.NewSource(61))
	for range 60000 {
		l := anyRows(r)
		m := model{rows: l}
		want, wrong := m.doc()
		d, diags := man.Parse(l...)
		if !tree.Same(d.Kids, want.Kids) || !slices.Equal(diags, wrong) {
			t.Fatalf("Parse of %#v: %v %v, want %v %v", l, d, diags, want, wrong)
		}
		if d.Name != want.Name || d.Part != want.Part || d.Date != want.Date || d.Source != want.Source {
			t.Fatalf("Parse of %#v: %v, want %v", l, d, want)
		}
		if e := tree.Check(d); e != api.OK {
			t.Fatalf("Parse of %#v: %v may not be: %d", l, d, e)
		}
	}
}

func TestInlineAnyRow(t *testing.T) {
	r := rand.New(rand.NewSource(62))
	for range 100000 {
		x := anyRow(r, r.Intn(2000)-1000)
		m := model{rows: []api.Row{x}}
		want, is, empty := m.inline(0)
		if empty {
			m.diags = nil
		}
		if l, diags, ok := man.Inline(x); ok != is || !slices.Equal(l, want) || !slices.Equal(diags, m.diags) {
			t.Fatalf("Inline of %#v: %v %v %v", x, l, diags, ok)
		}
	}
}

func TestNumberOfAnyText(t *testing.T) {
	r := rand.New(rand.NewSource(63))
	for range 100000 {
		s := some(r, 9, "0", "0", "1", "2", "9", "9", "5", "6") + some(r, 1, "n", "n", "n", "nn", "m", "-", " ", "_", "\x00", "\u0664")
		want, is := modelNumber(s)
		if n, ok := man.Number(s, 7); n != want || ok != is {
			t.Fatalf("Number of %+q: %d %v", s, n, ok)
		}
	}
}

// Any bytes are read: what lines.Read tells comes first.
func TestReadAnyText(t *testing.T) {
	r := rand.New(rand.NewSource(64))
	for range 50000 {
		s := some(r, 30, "a", "b ", ".", "'", "\n", "\n", "\n.", "\n.SH ", "\n.TP\n", "\n.RS ", "\n.RE", "\n.EX\n", "\n.EE\n", "\n.TS\nl.\n", "\n.TE\n", "\n.B ", "\n.TH ", `"`, `\`, `\"`, "3", "\t", "\r", "\x00", "\xff", "\u4e00", "RS", "IP ")
		l, wrong := lines.Read(s)
		m := model{rows: l}
		want, more := m.doc()
		d, diags := man.Read(s)
		if !tree.Same(d.Kids, want.Kids) || d.Name != want.Name || !slices.Equal(diags, append(wrong, more...)) {
			t.Fatalf("Read of %q: %v %v, want %v %v%v", s, d, diags, want, wrong, more)
		}
		if e := tree.Check(d); e != api.OK {
			t.Fatalf("Read of %q: %v may not be: %d", s, d, e)
		}
	}
}

// All text that is told is there, in order: here nothing is told that is left out.
func TestNoTextIsLost(t *testing.T) {
	r := rand.New(rand.NewSource(65))
	for range 20000 {
		var all []api.Glyph
		word := func() string {
			s := some(r, 4, "a", "b", "\\fB", "\\fI", " ", "\u4e00")
			l, _, _ := styles.Line(api.Face{}, s)
			all = append(all, l...)
			return s
		}
		l := []api.Row{macro(0, "TH", "x")}
		text := func() {
			l = append(l, api.Row{Line: len(l), Text: word()})
		}
		for range r.Intn(30) {
			switch r.Intn(10) {
			case 0, 1, 2:
				text()
			case 3:
				l = append(l, macro(len(l), oneOf(r, "SH", "SS"), word()))
			case 4:
				l = append(l, macro(len(l), oneOf(r, "SH", "SS", "TP")))
				text()
			case 5:
				l = append(l, macro(len(l), "IP", word(), "2"))
			case 6:
				l = append(l, macro(len(l), oneOf(r, "EX", "nf")))
				text()
				text()
				l = append(l, macro(len(l), oneOf(r, "EE", "fi")))
			case 7:
				l = append(l, macro(len(l), "TS"), api.Row{Text: "l l."}, api.Row{Text: word() + "\t" + word()}, macro(len(l), "TE"))
			default:
				l = append(l, macro(len(l), oneOf(r, "PP", "RS", "RE", "LP", "SH", "SS", "TP", "zz", "B")))
				l = append(l, macro(len(l), oneOf(r, "RE", "PP")))
			}
		}
		d, _ := man.Parse(l...)
		blank := func(g api.Glyph) bool { return g.R == 0x20 }
		if got, want := tree.Leaves(d.Kids...), slices.DeleteFunc(all, blank); !slices.Equal(got, want) {
			t.Fatalf("%#v: %q, want %q", l, cells.Text(got...), cells.Text(want...))
		}
	}
}
