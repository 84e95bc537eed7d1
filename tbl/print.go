package tbl

import (
	"strings"

	"flong/api"
	"flong/tree"
)

// nothing is an escape that tells nothing: what stands behind it is text, whatever it looks like.
const nothing = `\&`

// Print is the lines of which Parse makes t, as it may be.
func Print(t api.Table) []string {
	t = tree.Mend(t)
	var lines []string
	switch {
	case t.All:
		lines = append(lines, "allbox;")
	case t.Box:
		lines = append(lines, "box;")
	}
	lines = append(lines, strings.Join(strings.Split(t.Cols, ""), " ")+".")
	for _, r := range t.Rows {
		lines = append(lines, printed(r))
	}
	return lines
}

// printed is the line that tells a row.
func printed(r api.TableRow) string {
	if r.Rule {
		return rule
	}
	cells := make([]string, len(r.Cells))
	for i, l := range r.Cells {
		cells[i] = guarded(text(l), len(cells) == 1)
	}
	return strings.Join(cells, tab)
}

// guarded is a cell's text, told so that it is read as one.
func guarded(s string, alone bool) string {
	switch s {
	case "":
		if !alone {
			break
		}
		fallthrough
	case rule, double, begin:
		return nothing + s
	}
	return s
}

// text is the bytes of all runes that may be written.
func text(l []api.Glyph) string {
	var b strings.Builder
	for _, g := range l {
		if !silent(g.R) {
			b.WriteRune(g.R)
		}
	}
	return b.String()
}

// silent tells whether r is below 0, or a control.
func silent(r rune) bool {
	return r < ' ' || r >= 0x7f && r <= 0x9f || r == 0x2028 || r == 0x2029
}
