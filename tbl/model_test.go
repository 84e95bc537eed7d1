package tbl_test

import (
	"math/rand"
	"regexp"
	"slices"
	"strings"
	"testing"

	"flong/api"
	"flong/cells"
	"flong/escape"
	"flong/tbl"
	"flong/tree"
)

// pattern is every way a line of a look may be.
var pattern = regexp.MustCompile(`^[ ,]*((all)?box[ ,]+)*((all)?box)?[ ,]*;$`)

// model is a table that is told, made from lines that stand in front of the reader all at once.
type model struct {
	line  int
	l     []string
	table api.Table
	diags []api.Diag
}

func (m *model) tell(kind int, k int) {
	m.diags = append(m.diags, at(kind, m.line+k))
}

// word is the longest text that no blank and no comma stands in.
var word = regexp.MustCompile(`[^ ,]+`)

// modelColumns is what the words of a line tell, and how many tell nothing.
func modelColumns(s string) (string, int) {
	if strings.HasSuffix(s, ".") {
		s = s[:len(s)-1]
	}
	cols, odd := "", 0
	for _, w := range word.FindAllString(s, -1) {
		small := strings.ToLower(w)
		if i := strings.IndexByte("lcr", small[0]); i >= 0 {
			cols += "lcr"[i : i+1]
			continue
		}
		cols += "l"
		odd++
	}
	return cols, odd
}

// modelGlyphs is the words of a text, each as it is set, and what is wrong in the line k.
func (m *model) modelGlyphs(k int, s string) [][]api.Glyph {
	tokens, diags := escape.Scan(s)
	for _, d := range diags {
		m.diags = append(m.diags, in(d.Kind, m.line+k, d.Col))
	}
	var out [][]api.Glyph
	var now, was uint8
	word := []api.Glyph{}
	for _, x := range append(tokens, api.Token{Kind: api.Space}) {
		switch {
		case x.Kind == api.Space || x.Kind == api.Char && x.R == 0x20:
			if len(word) > 0 {
				out = append(out, word)
			}
			word = nil
		case x.Kind == api.Char:
			word = append(word, api.Glyph{R: x.R, S: now})
		case x.R == 4:
			now, was = was, now
		default:
			now, was = uint8(x.R), now
		}
	}
	return out
}

// modelCell is words with a blank between.
func modelCell(words [][]api.Glyph) []api.Glyph {
	var out []api.Glyph
	for i, w := range words {
		if i > 0 {
			out = append(out, api.Glyph{R: 0x20})
		}
		out = append(out, w...)
	}
	return out
}

// cellsAt is the cells of a text in the line k, with those that go on, and where the next row begins.
func (m *model) cellsAt(k int, l []string) ([][]api.Glyph, int) {
	if len(l) == 0 {
		return nil, k + 1
	}
	if l[0] != "T{" {
		cell := modelCell(m.modelGlyphs(k, l[0]))
		others, next := m.cellsAt(k, l[1:])
		return append([][]api.Glyph{cell}, others...), next
	}
	n := slices.IndexFunc(m.l[k+1:], func(s string) bool { return strings.HasPrefix(s, "T}") })
	end := k + 1 + n
	if n < 0 {
		end = len(m.l)
	}
	var words [][]api.Glyph
	for i := k + 1; i < end; i++ {
		words = append(words, m.modelGlyphs(i, m.l[i])...)
	}
	if n < 0 {
		m.tell(api.NotClosed, k)
		return [][]api.Glyph{modelCell(words)}, end
	}
	others, next := m.cellsAt(end, strings.Split(m.l[end], "\t")[1:])
	return append([][]api.Glyph{modelCell(words)}, others...), next
}

// columns is where the cells begin.
func (m *model) columns(from int) int {
	m.table.Cols = "l"
	n := slices.IndexFunc(m.l[from:], func(s string) bool { return strings.HasSuffix(s, ".") })
	to := from + n + 1
	if n < 0 {
		to = len(m.l)
	}
	for k := from; k < to; k++ {
		cols, odd := modelColumns(m.l[k])
		if odd > 0 {
			m.tell(api.BadTable, k)
		}
		if len(cols) > 20 {
			m.tell(api.TooMany, k)
		}
		if len(cols) > 0 {
			m.table.Cols = cols[:min(len(cols), 20)]
		}
	}
	if n < 0 {
		m.tell(api.NotClosed, 0)
	}
	return to
}

func (m *model) parse() {
	k := 0
	if len(m.l) > 0 && strings.HasSuffix(m.l[0], ";") {
		k = 1
		m.table.Box = pattern.MatchString(m.l[0]) && strings.Contains(m.l[0], "box")
		m.table.All = m.table.Box && strings.Contains(m.l[0], "allbox")
		if !pattern.MatchString(m.l[0]) {
			m.tell(api.BadTable, 0)
		}
	}
	k = m.columns(k)
	for k < len(m.l) {
		if m.l[k] == "_" || m.l[k] == "=" {
			m.table.Rows = append(m.table.Rows, rule())
			k++
			continue
		}
		l, next := m.cellsAt(k, strings.Split(m.l[k], "\t"))
		n := len(m.table.Cols)
		if len(l) > n {
			m.tell(api.TooMany, k)
		}
		l = append(l, make([][]api.Glyph, n)...)
		m.table.Rows = append(m.table.Rows, rowOf(l[:n]...))
		k = next
	}
}

// some is up to n of parts, one behind the other.
func some(r *rand.Rand, n int, parts ...string) string {
	var s strings.Builder
	for range r.Intn(n + 1) {
		s.WriteString(parts[r.Intn(len(parts))])
	}
	return s.String()
}

func anyLook(r *rand.Rand) string {
	return some(r, 4, "box", "allbox", " ", ",", ";", "x", ".", "\t") + some(r, 1, ";", ";", ";", " ")
}

func anyColumns(r *rand.Rand) string {
	s := some(r, 12, "l", "c", "r", "L", "R", "C", " ", " ", ",", "x", ".", ";", "\t", "\u00a0")
	if r.Intn(8) == 0 {
		s = words(19+r.Intn(4), "r ") + s
	}
	return s
}

func anyText(r *rand.Rand) string {
	return some(r, 5, "a", "b", " ", " ", "_", "=", `\fB`, `\fP`, `\q`, `\(zz`, `\[u0020]`, `\ `, `\"`, `\&`, "\x01", "\u4e00", "\u0301", "\xff", "T{", "T}", ".", ";")
}

func anyLine(r *rand.Rand) string {
	switch r.Intn(6) {
	case 0:
		return []string{"", "_", "=", "T{", "T}", "\t", "T{\ta", "T}\tT{", "\tT{", "T}a\tb", "box;", "l."}[r.Intn(12)]
	case 1:
		return anyText(r)
	}
	l := make([]string, 1+r.Intn(5))
	for i := range l {
		l[i] = anyText(r)
		if r.Intn(6) == 0 {
			l[i] = "T{"
		}
	}
	return strings.Join(l, "\t")
}

func anyLines(r *rand.Rand) []string {
	var l []string
	if r.Intn(2) == 0 {
		l = append(l, anyLook(r))
	}
	for range r.Intn(3) {
		l = append(l, anyColumns(r))
	}
	if r.Intn(6) > 0 {
		l = append(l, anyColumns(r)+".")
	}
	for range r.Intn(8) {
		l = append(l, anyLine(r))
	}
	return l
}

func TestParseAnyLines(t *testing.T) {
	r := rand.New(rand.NewSource(51))
	for range 100000 {
		m := model{line: r.Intn(2000) - 1000, l: anyLines(r)}
		m.parse()
		got, diags := tbl.Parse(m.line, m.l...)
		if !tree.SameTable(got, m.table) || !slices.Equal(diags, m.diags) {
			t.Fatalf("Parse of %d %+q: %v %v, want %v %v", m.line, m.l, got, diags, m.table, m.diags)
		}
	}
}

// Every line of up to six of the signs that count.
func TestLookAndColumnsOfShortLines(t *testing.T) {
	var all func(n int, s string, parts []string, try func(s string))
	all = func(n int, s string, parts []string, try func(s string)) {
		try(s)
		for _, p := range parts {
			if n > 0 {
				all(n-1, s+p, parts, try)
			}
		}
	}
	all(5, "", []string{"box", "allbox", "x", " ", ",", ";", "\t"}, func(s string) {
		is := pattern.MatchString(s)
		wantBox, wantAll := is && strings.Contains(s, "box"), is && strings.Contains(s, "allbox")
		if box, all, ok := tbl.Look(s); box != wantBox || all != wantAll || ok != is {
			t.Fatalf("Look of %+q: %v %v %v", s, box, all, ok)
		}
	})
	all(6, "", []string{"l", "C", "r", "x", " ", ",", ".", "\t"}, func(s string) {
		want, odd := modelColumns(s)
		if cols, ok := tbl.Columns(s); cols != want || ok != (odd == 0) {
			t.Fatalf("Columns of %+q: %q %v", s, cols, ok)
		}
	})
}

// What is cut is put together as it was, and has no tab.
func TestCutAnyLine(t *testing.T) {
	r := rand.New(rand.NewSource(52))
	for range 20000 {
		s := anyLine(r)
		l := tbl.Cut(s)
		if strings.Join(l, "\t") != s || len(l) != strings.Count(s, "\t")+1 || strings.Contains(strings.Join(l, ""), "\t") {
			t.Fatalf("Cut of %+q: %q", s, l)
		}
	}
}

// anyCell is glyphs of which all are printed as they are.
func anyCell(r *rand.Rand) []api.Glyph {
	return row(some(r, 4, "a", "b", " ", "_", "=", "T{", "T}", ".", ";", ",", `"`, "'", "\u00a0", "\u4e00", "\u0301", "\ufffd", "\u200b", "{", "\U0010ffff"))
}

func anyTable(r *rand.Rand, cell func(r *rand.Rand) []api.Glyph) api.Table {
	t := api.Table{Cols: some(r, 4, "l", "c", "r", "r", "x"), Box: r.Intn(2) == 0, All: r.Intn(2) == 0}
	for range r.Intn(6) {
		x := api.TableRow{Rule: r.Intn(5) == 0}
		for range r.Intn(5) {
			x.Cells = append(x.Cells, cell(r))
		}
		t.Rows = append(t.Rows, x)
	}
	return t
}

// What is printed is read.
func TestPrintedIsRead(t *testing.T) {
	r := rand.New(rand.NewSource(53))
	for range 100000 {
		x := anyTable(r, anyCell)
		l := tbl.Print(x)
		got, diags := tbl.Parse(r.Intn(100), l...)
		if want := tree.Mend(x); !tree.SameTable(got, want) || len(diags) > 0 {
			t.Fatalf("of %v, printed %+q: %v %v", x, l, got, diags)
		}
	}
}

// anyGlyphs is glyphs of any runes, set in any way.
func anyGlyphs(r *rand.Rand) []api.Glyph {
	few := []rune{'a', ' ', ' ', '_', '=', 'T', '{', '\t', '\\', '&', '\n', 0, 0x1f, 0x7f, 0x9f, 0xa0, 0x2028, 0x2029, 0x4e00, -1, 0xd800, 0x110000}
	var l []api.Glyph
	for range r.Intn(4) {
		l = append(l, api.Glyph{R: few[r.Intn(len(few))], S: uint8(r.Intn(5))})
	}
	return l
}

// modelPrint is the lines of a table, each cell told by itself, and guarded where it has to be.
func modelPrint(t api.Table) []string {
	t = tree.Mend(t)
	var l []string
	if t.Box {
		l = append(l, map[bool]string{true: "allbox;", false: "box;"}[t.All])
	}
	cols := ""
	for i := range t.Cols {
		cols += " " + t.Cols[i:i+1]
	}
	l = append(l, cols[1:]+".")
	for _, x := range t.Rows {
		line := "_"
		for i, cell := range x.Cells {
			s := cells.Text(slices.DeleteFunc(cell, func(g api.Glyph) bool {
				return g.R < 0x20 || g.R >= 0x7f && g.R < 0xa0 || g.R == 0x2028 || g.R == 0x2029
			})...)
			if s == "_" || s == "=" || s == "T{" || s == "" && len(t.Cols) == 1 {
				s = `\&` + s
			}
			if i == 0 {
				line = s
			} else {
				line += "\t" + s
			}
		}
		l = append(l, line)
	}
	return l
}

func TestPrintAnyTable(t *testing.T) {
	r := rand.New(rand.NewSource(54))
	for range 100000 {
		x := anyTable(r, anyGlyphs)
		got := tbl.Print(x)
		if want := modelPrint(x); !slices.Equal(got, want) {
			t.Fatalf("Print of %v: %+q, want %+q", x, got, want)
		}
		// What is printed is lines, and a table that may be, whatever was in it.
		tbl.Parse(1, got...)
		for _, s := range got {
			if strings.ContainsAny(s, "\n\r\x00") {
				t.Fatalf("Print of %v: %+q", x, got)
			}
		}
	}
}

// Any table that was read and printed, of which nothing is set and nothing is a backslash, is read again as it was.
func TestReadIsPrinted(t *testing.T) {
	r := rand.New(rand.NewSource(55))
	plain := func(x api.Table) bool {
		for _, x := range x.Rows {
			for _, g := range slices.Concat(x.Cells...) {
				if g.S != 0 || g.R == '\\' {
					return false
				}
			}
		}
		return true
	}
	n := 0
	for range 50000 {
		x, _ := tbl.Parse(1, anyLines(r)...)
		if !plain(x) {
			continue
		}
		n++
		if got, diags := tbl.Parse(1, tbl.Print(x)...); !tree.SameTable(got, x) || len(diags) > 0 {
			t.Fatalf("of %v: %v %v", x, got, diags)
		}
	}
	if n < 10000 {
		t.Error(n)
	}
}
