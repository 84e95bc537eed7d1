package mdoc_test

import (
	"math/rand"
	"regexp"
	"slices"
	"strconv"
	"strings"
	"testing"

	"flong/api"
	"flong/cells"
	"flong/escape"
	"flong/lines"
	"flong/man"
	"flong/mdoc"
	"flong/styles"
	"flong/tree"
)

// sets is how each kind of words is set; of Xr it is the first one.
var sets = map[string]uint8{"Ar": 2, "Em": 2, "Cm": 1, "Sy": 1, "Fl": 1, "Nm": 1, "Xr": 1, "Li": 0, "No": 0, "Op": 0}

// modelSet is the glyphs of a text, from a face on.
func modelSet(now uint8, s string) ([]api.Glyph, []api.Diag) {
	was := now
	tokens, diags := escape.Scan(s)
	var out []api.Glyph
	for _, x := range tokens {
		switch {
		case x.Kind == api.Space:
			out = append(out, api.Glyph{R: 0x20})
		case x.Kind == api.Char:
			out = append(out, api.Glyph{R: x.R, S: now})
		case x.R == 4:
			now, was = was, now
		default:
			now, was = uint8(x.R), now
		}
	}
	return out, diags
}

// mark is a word as the model sees it: each for itself, by where it stands.
type mark struct {
	kind string // of its element
	head bool   // whether it begins one
	sign bool
	nth  int // of the element's other words, from 1 on
}

func marks(l []string) []mark {
	var out []mark
	x := mark{kind: "No"}
	for _, w := range l {
		_, x.head = sets[w]
		x.sign = slices.Contains(signs, w)
		switch {
		case x.head:
			x.kind, x.nth = w, 0
		case !x.sign:
			x.nth++
		}
		out = append(out, x)
	}
	return out
}

// modelPieces is the pieces of words, each made of its mark.
func modelPieces(name string, l []string) ([]api.Piece, string, []api.Diag) {
	var out []api.Piece
	var diags []api.Diag
	all := marks(l)
	spoken := func(ahead string, s string, set uint8, behind string) *api.Piece {
		row, wrong := modelSet(set, s)
		diags = append(diags, wrong...)
		out = append(out, api.Piece{Text: slices.Concat(cells.Of(ahead, set), row, cells.Of(behind, set))})
		return &out[len(out)-1]
	}
	closes := 0
	for i, x := range all {
		words := 0
		for k := i + 1; k < len(all) && !all[k].head; k++ {
			words = all[k].nth
		}
		switch {
		case x.head && x.kind == "Op":
			out = append(out, api.Piece{Text: row("["), Right: true})
			closes++
		case x.head && words > 0:
		case x.head && x.kind == "Fl":
			spoken("-", "", 1, "")
		case x.head && x.kind == "Ar":
			spoken("", "file", 2, "")
			spoken("", "...", 2, "")
		case x.head && x.kind == "Nm":
			spoken("", name, 1, "")
		case x.head:
		case x.sign:
			opens := l[i] == "(" || l[i] == "["
			out = append(out, api.Piece{Text: row(l[i]), Left: !opens, Right: opens})
		case x.kind == "Fl":
			spoken("-", l[i], 1, "")
		case x.kind == "Xr" && x.nth == 2:
			spoken("(", l[i], 0, ")").Left = true
		case x.kind == "Xr" && x.nth > 2:
			spoken("", l[i], 0, "")
		default:
			spoken("", l[i], sets[x.kind], "")
		}
		if x.kind == "Nm" && !x.head && !x.sign && name == "" {
			name = l[i]
		}
	}
	for range closes {
		out = append(out, api.Piece{Text: row("]"), Left: true})
	}
	return out, name, diags
}

// modelJoin is all pieces' glyphs, each with what stands ahead of it.
func modelJoin(l []api.Piece) []api.Glyph {
	l = slices.DeleteFunc(slices.Clone(l), func(x api.Piece) bool { return len(x.Text) == 0 })
	var out []api.Glyph
	for i, x := range l {
		if i > 0 && !l[i-1].Right && !x.Left {
			out = append(out, api.Glyph{R: 0x20})
		}
		out = append(out, x.Text...)
	}
	return out
}

// item is a node without its Kids, and within how many it stands: a list of them is a tree, told line by line.
type item struct {
	deep int
	x    api.Node
}

// model tells a document as an outline. What stands in a block is told by a call of its own.
type model struct {
	rows    []api.Row
	i       int // the row that is next
	name    string
	title   [4]string
	titled  bool
	outline []item
	deep    int // how many nodes are open
	section bool
	sub     bool
	text    []api.Glyph
	line    int // where the text began, if it did
	begun   bool
	diags   []api.Diag
}

func (m *model) tell(kind int, line int) {
	m.diags = append(m.diags, at(kind, line))
}

func (m *model) wrong(line int, l []api.Diag) {
	for _, x := range l {
		m.diags = append(m.diags, in(x.Kind, line, x.Col))
	}
}

func (m *model) says(line int, words []string) []api.Glyph {
	l, name, wrong := modelPieces(m.name, words)
	m.name = name
	m.wrong(line, wrong)
	return modelJoin(l)
}

// inline is the glyphs of a row, and whether it is one of glyphs.
func (m *model) inline(x api.Row) ([]api.Glyph, bool) {
	if x.Macro == "" {
		l, wrong := modelSet(0, x.Text)
		m.wrong(x.Line, wrong)
		return l, true
	}
	if _, ok := sets[x.Macro]; ok {
		return m.says(x.Line, slices.Insert(slices.Clone(x.Args), 0, x.Macro)), true
	}
	return nil, false
}

func (m *model) end() {
	for _, g := range m.text {
		if g.R != 0x20 {
			m.outline = append(m.outline, item{m.deep, api.Node{Kind: 3, Line: m.line, Text: m.text}})
			break
		}
	}
	m.begun, m.text = false, nil
}

func (m *model) add(x api.Node) {
	m.end()
	m.outline = append(m.outline, item{m.deep, x})
}

func (m *model) open(x api.Node) bool {
	if m.deep == 20 {
		m.tell(api.TooDeep, x.Line)
		return false
	}
	m.add(x)
	m.deep++
	return true
}

// close closes all nodes but so many.
func (m *model) close(deep int) {
	m.end()
	m.deep = deep
}

func (m *model) say(l []api.Glyph, x api.Row) {
	if x.Macro == "" && strings.Trim(cells.Text(l...), " ") == "" {
		m.end()
		return
	}
	if !m.begun {
		m.begun, m.line = true, x.Line
	}
	if len(m.text) > 0 && len(l) > 0 {
		m.text = append(m.text, api.Glyph{R: 0x20})
	}
	m.text = append(m.text, l...)
}

// within tells the rows of a block of a row, behind it, that ends with the macro end; a list's items are told by it.
func (m *model) within(of api.Row, end string, it func(x api.Row)) {
	deep := m.deep
	if of.Macro != "" {
		deep--
	}
	for m.i < len(m.rows) {
		x := m.rows[m.i]
		if x.Macro == end {
			m.i++
			m.close(deep)
			return
		}
		if (x.Macro == "Sh" || x.Macro == "Ss") && of.Macro != "" {
			break
		}
		m.i++
		if l, is := m.inline(x); is {
			m.say(l, x)
			continue
		}
		if x.Macro == "It" && it != nil {
			it(x)
			continue
		}
		m.macro(x)
	}
	if of.Macro != "" {
		m.tell(api.NotClosed, of.Line)
		m.close(deep)
	}
}

func (m *model) macro(x api.Row) {
	switch x.Macro {
	case "Dd":
		m.title[2] = strings.Join(x.Args, " ")
	case "Os":
		m.title[3] = strings.Join(x.Args, " ")
	case "Dt":
		m.titled = true
		copy(m.title[:2], append(slices.Clone(x.Args), "", ""))
	case "Sh", "Ss":
		m.heading(x)
	case "Pp":
		m.end()
	case "Bl":
		m.list(x)
	case "Bd":
		if len(x.Args) > 0 && x.Args[0] == "-literal" {
			m.literal(x)
			break
		}
		if m.open(api.Node{Kind: 5, Line: x.Line, N: 7}) {
			m.within(x, "Ed", nil)
		}
	case "It":
		m.tell(api.NotHere, x.Line)
	case "El", "Ed":
		m.tell(api.NotOpen, x.Line)
	default:
		m.tell(api.BadMacro, x.Line)
	}
}

// heading is a row at the top, where no block is open.
func (m *model) heading(x api.Row) {
	deep := 0
	if x.Macro == "Ss" && m.section {
		deep = 1
	}
	m.close(deep)
	m.section = deep == 1
	if len(x.Args) == 0 {
		m.tell(api.BadArgs, x.Line)
		return
	}
	m.section = m.section || x.Macro == "Sh"
	l, wrong := styles.Words(0, x.Args...)
	m.wrong(x.Line, wrong)
	m.open(api.Node{Kind: map[string]int{"Sh": 1, "Ss": 2}[x.Macro], Line: x.Line, Text: l})
}

// step is every way a width may be.
var step = regexp.MustCompile(`^([0-9]{1,6})n?$`)

func (m *model) list(x api.Row) {
	args := append(slices.Clone(x.Args), "")
	if !regexp.MustCompile(`^-(tag|bullet|enum|item)$`).MatchString(args[0]) {
		m.tell(api.BadArgs, x.Line)
		args[0] = "-item"
	}
	width := 7
	for i, s := range x.Args {
		if s == "-width" {
			if d := step.FindStringSubmatch(args[i+1]); d != nil {
				width, _ = strconv.Atoi(d[1])
				width = min(width, 200)
			} else {
				m.tell(api.BadArgs, x.Line)
			}
			break
		}
	}
	if !m.open(api.Node{Kind: 5, Line: x.Line}) {
		return
	}
	deep, n := m.deep, 0
	m.within(x, "El", func(x api.Row) {
		n++
		if m.deep > deep {
			m.close(deep)
		}
		y := api.Node{Kind: 4, Line: x.Line}
		switch args[0] {
		case "-tag":
			y.N, y.Text = width, m.says(x.Line, x.Args)
		case "-bullet":
			y.N, y.Text = 2, []api.Glyph{{R: 0x2022}}
		case "-enum":
			y.N, y.Text = 4, row(strconv.Itoa(n)+".")
		}
		m.open(y)
	})
}

// literal is a row whose end is sought ahead.
func (m *model) literal(x api.Row) {
	n := slices.IndexFunc(m.rows[m.i:], func(x api.Row) bool { return x.Macro == "Ed" })
	end := m.i + n
	if n < 0 {
		end = len(m.rows)
	}
	m.end()
	y := api.Node{Kind: 6, Line: x.Line}
	for _, x := range m.rows[m.i:end] {
		if l, is := m.inline(x); is {
			y.Rows = append(y.Rows, l)
		} else {
			m.tell(api.NotHere, x.Line)
		}
	}
	if n < 0 {
		m.tell(api.NotClosed, x.Line)
	}
	m.add(y)
	m.i = min(end+1, len(m.rows))
}

// doc is the document, and what is wrong.
func (m *model) doc() (api.Doc, []api.Diag) {
	m.within(api.Row{}, "\x00 no macro", nil)
	m.end()
	if !m.titled {
		m.tell(api.NoTitle, 0)
	}
	t := m.title
	return tree.Tidy(api.Doc{Name: t[0], Part: t[1], Date: t[2], Source: t[3], Kids: unfolded(0, m.outline)}), m.diags
}

func unfolded(deep int, l []item) []api.Node {
	var out []api.Node
	for i, it := range l {
		if it.deep != deep {
			continue
		}
		end := i + 1
		for end < len(l) && l[end].deep > deep {
			end++
		}
		it.x.Kids = unfolded(deep+1, l[i+1:end])
		out = append(out, it.x)
	}
	return out
}

func oneOf(r *rand.Rand, l ...string) string {
	return l[r.Intn(len(l))]
}

// some is up to n of parts, one behind the other.
func some(r *rand.Rand, n int, parts ...string) string {
	var s strings.Builder
	for range r.Intn(n + 1) {
		s.WriteString(oneOf(r, parts...))
	}
	return s.String()
}

func anyText(r *rand.Rand) string {
	if r.Intn(4) == 0 {
		return oneOf(r, "", " ", "\t", `\&`, ".", "'", ".Em", "Fl", `\`)
	}
	return some(r, 6, "a", "b", "c", " ", " ", `\fB`, `\fI`, `\fP`, `\q`, `\(zz`, `\[u0020]`, `\ `, "\x01", "\u4e00", "\u0301", "\xff")
}

func anyWord(r *rand.Rand) string {
	switch r.Intn(8) {
	case 0, 1:
		return oneOf(r, callable...)
	case 2, 3:
		return oneOf(r, signs...)
	case 4:
		return oneOf(r, "", "", "..", "()", "op", "Fl ", "Pp", "-a", "file", `\&`, `\fP`)
	}
	return anyText(r)
}

func anyWords(r *rand.Rand, n int) []string {
	var l []string
	for range r.Intn(n + 1) {
		l = append(l, anyWord(r))
	}
	return l
}

func anyRow(r *rand.Rand, line int) api.Row {
	x := api.Row{Line: line}
	switch r.Intn(9) {
	case 0, 1:
		x.Text = anyText(r)
		return x
	case 2, 3:
		x.Macro = oneOf(r, callable...)
	case 4:
		x.Macro = oneOf(r, "Dd", "Dt", "Os", "Sh", "Sh", "Ss", "Ss", "Pp", "Zz", "op", "TH")
	case 5:
		x.Macro = "It"
	case 6:
		x.Macro = oneOf(r, "El", "Ed")
	default:
		x.Macro = oneOf(r, "Bl", "Bl", "Bl", "Bd")
		x.Args = words(oneOf(r, "", "-tag", "-bullet", "-enum", "-item", "-literal", "-x", "_", "-tag -width 3", "-tag -width 300", "-tag -width x", "-enum -width", "-width -width 9", "x -width 9 -tag", "x -width y"))
		return x
	}
	x.Args = anyWords(r, 4)
	return x
}

func anyRows(r *rand.Rand) []api.Row {
	var l []api.Row
	for r.Intn(6) == 0 && len(l) < 25 {
		for range 6 + r.Intn(16) {
			l = append(l, macro(len(l), oneOf(r, "Bd", "Bl", "Bl", "It"), oneOf(r, "-tag", "-enum", "-item", "x")))
		}
	}
	for range r.Intn(30) {
		l = append(l, anyRow(r, len(l)))
	}
	return l
}

func TestParseAnyRows(t *testing.T) {
	r := rand.New(rand.NewSource(71))
	for range 25000 {
		l := anyRows(r)
		m := model{rows: l}
		want, wrong := m.doc()
		d, diags := mdoc.Parse(l...)
		if !tree.Same(d.Kids, want.Kids) || !slices.Equal(diags, wrong) {
			t.Fatalf("Parse of %#v: %v %v, want %v %v", l, d, diags, want, wrong)
		}
		if d.Name != want.Name || d.Part != want.Part || d.Date != want.Date || d.Source != want.Source {
			t.Fatalf("Parse of %#v: %v, want %v", l, d, want)
		}
		if e := tree.Check(d); e != api.OK {
			t.Fatalf("Parse of %#v: %v may not be: %d", l, d, e)
		}
	}
}

func TestPiecesOfAnyWords(t *testing.T) {
	r := rand.New(rand.NewSource(72))
	for range 100000 {
		name, l := oneOf(r, "", "", "n", `n\q`, ".", "Op", `\fIn`), anyWords(r, 12)
		want, known, wrong := modelPieces(name, l)
		got, then, diags := mdoc.Pieces(name, l...)
		if !same(got, want) || then != known || !slices.Equal(diags, wrong) {
			t.Fatalf("Pieces of %q, %q: %v %q %v, want %v %q %v", name, l, got, then, diags, want, known, wrong)
		}
		if got, want := mdoc.Join(got...), modelJoin(want); !slices.Equal(got, want) {
			t.Fatalf("Pieces of %q, %q: %q, want %q", name, l, cells.Text(got...), cells.Text(want...))
		}
	}
}

// Any two words, and three, of the kinds that count.
func TestPiecesOfFewWords(t *testing.T) {
	parts := slices.Concat(callable, signs, []string{"", "a", `\q`})
	for _, a := range parts {
		for _, b := range parts {
			for _, c := range parts {
				l := []string{a, b, c}
				want, known, wrong := modelPieces("", l)
				got, then, diags := mdoc.Pieces("", l...)
				if !same(got, want) || then != known || !slices.Equal(diags, wrong) {
					t.Fatalf("Pieces of %q: %v %q %v, want %v %q %v", l, got, then, diags, want, known, wrong)
				}
			}
		}
	}
}

func TestJoinOfAnyPieces(t *testing.T) {
	r := rand.New(rand.NewSource(73))
	for range 100000 {
		var l []api.Piece
		for range r.Intn(8) {
			l = append(l, api.Piece{Text: cells.Of(some(r, 3, "a", " ", "(", "\u4e00"), uint8(r.Intn(256))), Left: r.Intn(3) == 0, Right: r.Intn(3) == 0})
		}
		if got, want := mdoc.Join(l...), modelJoin(l); !slices.Equal(got, want) {
			t.Fatalf("Join of %v: %v, want %v", l, got, want)
		}
	}
}

// Any bytes are read, as either kind: what lines.Read tells comes first.
func TestReadAnyText(t *testing.T) {
	r := rand.New(rand.NewSource(74))
	for range 20000 {
		s := some(r, 30, "a", "b ", ".", "'", "\n", "\n", "\n.", "\n.Sh ", "\n.Bl -tag ", "\n.Bl -enum\n", "\n.It ", "\n.El\n", "\n.Bd\n", "\n.Bd -literal\n", "\n.Ed\n", "\n.Op ", "\n.Dt ", "\n.TH ", "Fl ", " Nm ", `"`, `\`, `\"`, "3", "\t", "\r", "\x00", "\xff", "\u4e00", " -width ")
		l, wrong := lines.Read(s)
		m := model{rows: l}
		want, more := m.doc()
		wrong = append(wrong, more...)
		d, diags := mdoc.Read(s)
		if !tree.Same(d.Kids, want.Kids) || d.Name != want.Name || !slices.Equal(diags, wrong) {
			t.Fatalf("Read of %q: %v %v, want %v %v", s, d, diags, want, wrong)
		}
		if first := regexp.MustCompile(`D[dt]|Sh|TH|SH`).FindString(macros(l)); first == "" || first[1] == 'H' {
			want, wrong = man.Read(s)
		}
		d, diags = mdoc.Any(s)
		if !tree.Same(d.Kids, want.Kids) || d.Name != want.Name || !slices.Equal(diags, wrong) {
			t.Fatalf("Any of %q: %v %v, want %v %v", s, d, diags, want, wrong)
		}
		if e := tree.Check(d); e != api.OK {
			t.Fatalf("Any of %q: %v may not be: %d", s, d, e)
		}
	}
}

// macros is the macros of rows that have a name of two signs.
func macros(l []api.Row) string {
	s := ""
	for _, x := range l {
		if len(x.Macro) == 2 {
			s += " " + x.Macro
		}
	}
	return s
}

// All words are there, in order, each as its kind has it; signs stand beside them.
func TestNoTextIsLost(t *testing.T) {
	r := rand.New(rand.NewSource(75))
	for range 20000 {
		var all []api.Glyph
		args := func(n int) []string {
			var l []string
			for range n {
				s := oneOf(r, "a", `b\fIc`, "d e", ",", "(", "\u4e00")
				l = append(l, s)
				x, _, _ := styles.Line(api.Face{}, s)
				all = append(all, x...)
			}
			return l
		}
		l := []api.Row{macro(0, "Dt", "x")}
		put := func(name string, args ...string) {
			l = append(l, macro(len(l), name, args...))
		}
		open := []string{}
		for range r.Intn(40) {
			switch r.Intn(9) {
			case 0, 1:
				l = append(l, api.Row{Line: len(l), Text: args(1)[0]})
			case 2, 3:
				put(oneOf(r, "No", "Li"), args(1+r.Intn(3))...)
			case 4:
				put(oneOf(r, "Sh", "Ss"), args(1+r.Intn(3))...)
				open = nil
			case 5:
				if len(open) < 7 {
					put("Bl", oneOf(r, "-tag", "-item"))
					open = append(open, "El")
				}
			case 6:
				if n := len(open); n > 0 && open[n-1] == "El" {
					put("It")
				}
			case 7:
				if len(open) < 7 {
					put("Bd", oneOf(r, "-x", ""))
					open = append(open, "Ed")
				}
			default:
				if n := len(open); n > 0 {
					put(open[n-1])
					open = open[:n-1]
				}
				put(oneOf(r, "Pp", "Zz", "Dd"))
			}
		}
		d, _ := mdoc.Parse(l...)
		blank := func(g api.Glyph) bool { return g.R == 0x20 }
		if got, want := tree.Leaves(d.Kids...), slices.DeleteFunc(all, blank); !slices.Equal(got, want) {
			t.Fatalf("%#v: %q, want %q", l, cells.Text(got...), cells.Text(want...))
		}
	}
}
