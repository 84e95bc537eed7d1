package tbl

import (
	"iter"
	"strings"

	"flong/api"
	"flong/styles"
	"flong/tree"
)

// reader is a table's lines, that are being read one by one, and what they have told so far.
type reader struct {
	line  int // the number of the first one
	lines []string
	next  int // how many were read
	table api.Table
	diags []api.Diag
}

// Parse is the table that lines tell, of which the first one has the number line, and what is wrong with them.
func Parse(line int, l ...string) (api.Table, []api.Diag) {
	r := &reader{line: line, lines: l}
	r.look()
	r.columns()
	for s := range r.left() {
		r.row(s)
	}
	return tree.Mend(r.table), r.diags
}

// left is the lines that are not read yet. One counts as read as soon as it is handed out.
func (r *reader) left() iter.Seq[string] {
	return func(yield func(string) bool) {
		for r.next < len(r.lines) {
			r.next++
			if !yield(r.lines[r.next-1]) {
				return
			}
		}
	}
}

// at is the number of the line that was read last.
func (r *reader) at() int {
	return r.line + r.next - 1
}

// tell tells that something is wrong with a line.
func (r *reader) tell(kind int, line int) {
	r.diags = append(r.diags, api.Diag{Kind: kind, Line: line})
}

// look reads the first line, if it tells how the table looks, or tries to.
func (r *reader) look() {
	if len(r.lines) == 0 || !strings.HasSuffix(r.lines[0], ";") {
		return
	}
	box, all, ok := Look(r.lines[0])
	r.next++
	if !ok {
		r.tell(api.BadTable, r.at())
	}
	r.table.Box, r.table.All = box, all
}

// columns reads the lines that tell how columns stand.
func (r *reader) columns() {
	r.table.Cols = bare
	for s := range r.left() {
		r.column(s)
		if strings.HasSuffix(s, ".") {
			return
		}
	}
	r.tell(api.NotClosed, r.line)
}

// column reads a line that tells how columns stand. One without words tells nothing.
func (r *reader) column(s string) {
	cols, ok := Columns(s)
	if !ok {
		r.tell(api.BadTable, r.at())
	}
	if len(cols) > api.MaxCols {
		r.tell(api.TooMany, r.at())
		cols = cols[:api.MaxCols]
	}
	if cols != "" {
		r.table.Cols = cols
	}
}

// row reads a row that begins with this line. Its cells are neither squeezed nor left out here: what mends the table does both.
func (r *reader) row(line string) {
	if line == rule || line == double {
		r.table.Rows = append(r.table.Rows, api.TableRow{Rule: true})
		return
	}
	first := r.at()
	var row api.TableRow
	cells := Cut(line)
	for len(cells) > 0 {
		var cell []api.Glyph
		switch s := cells[0]; s {
		case begin:
			cell, cells = r.block()
		default:
			cell, cells = r.glyphs(s), cells[1:]
		}
		row.Cells = append(row.Cells, cell)
	}
	if len(row.Cells) > len(r.table.Cols) {
		r.tell(api.TooMany, first)
	}
	r.table.Rows = append(r.table.Rows, row)
}

// block reads the lines of a cell that goes on in them; the cells behind it are those of the line that ends it.
func (r *reader) block() ([]api.Glyph, []string) {
	first := r.at()
	var texts [][]api.Glyph
	var behind []string
	ended := false
texts:
	for s := range r.left() {
		switch {
		case strings.HasPrefix(s, end):
			behind, ended = Cut(s)[1:], true
			break texts
		default:
			texts = append(texts, r.glyphs(s))
		}
	}
	if !ended {
		r.tell(api.NotClosed, first)
	}
	return joined(texts...), behind
}

// glyphs is those of a text in the line that was read last.
func (r *reader) glyphs(s string) []api.Glyph {
	l, _, wrong := styles.Line(api.Face{}, s)
	for _, d := range wrong {
		d.Line = r.at()
		r.diags = append(r.diags, d)
	}
	return l
}

// joined is all of l, joined. It joins halves, since to join one behind the other would copy the first one for each of them.
func joined(l ...[]api.Glyph) []api.Glyph {
	switch n := len(l); n {
	case 0:
		return nil
	case 1:
		return l[0]
	default:
		return styles.Join(joined(l[:n/2]...), joined(l[n/2:]...))
	}
}
