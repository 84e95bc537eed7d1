package tree

import (
	"slices"
	"strings"

	"flong/api"
	"flong/cells"
	"flong/styles"
)

// bare is how the one column stands of a table that tells none.
const bare = "l"

// Squeezed is whether l has no blank but those that Squeeze leaves.
func Squeezed(l []api.Glyph) bool {
	return cells.Same(l, styles.Squeeze(l...))
}

// Right is whether a table may be.
func Right(t api.Table) bool {
	odd := func(sign rune) bool {
		return !column(sign)
	}
	loose := func(l []api.Glyph) bool {
		return !Squeezed(l)
	}
	wrong := func(r api.TableRow) bool {
		if r.Rule {
			return len(r.Cells) > 0
		}
		return len(r.Cells) != len(t.Cols) || slices.ContainsFunc(r.Cells, loose)
	}
	switch n := len(t.Cols); {
	case n == 0, n > api.MaxCols, t.All && !t.Box:
		return false
	}
	return !strings.ContainsFunc(t.Cols, odd) && !slices.ContainsFunc(t.Rows, wrong)
}

// Mend is t as it may be.
func Mend(t api.Table) api.Table {
	m := api.Table{Cols: columns(t.Cols), Box: t.Box, All: t.Box && t.All}
	for _, r := range t.Rows {
		m.Rows = append(m.Rows, mendRow(r, len(m.Cols)))
	}
	return m
}

// SameTable is whether a and b are alike, row by row, in all that they have.
func SameTable(a api.Table, b api.Table) bool {
	same := func(x, y api.TableRow) bool {
		return x.Rule == y.Rule && sameRows(x.Cells, y.Cells)
	}
	return a.Cols == b.Cols && a.Box == b.Box && a.All == b.All && slices.EqualFunc(a.Rows, b.Rows, same)
}

// column is whether a sign tells how a column stands.
func column(sign rune) bool {
	return sign == 'l' || sign == 'c' || sign == 'r'
}

// columns is the signs of s that tell columns, as many as there may be.
func columns(s string) string {
	keep := func(sign rune) rune {
		if column(sign) {
			return sign
		}
		return -1
	}
	cols := strings.Map(keep, s)
	if cols == "" {
		return bare
	}
	return cols[:min(len(cols), api.MaxCols)]
}

// mendRow is r with n cells, or as a rule.
func mendRow(r api.TableRow, n int) api.TableRow {
	if r.Rule {
		return api.TableRow{Rule: true}
	}
	row := make([][]api.Glyph, n)
	copy(row, r.Cells)
	for i, l := range row {
		row[i] = styles.Squeeze(l...)
	}
	return api.TableRow{Cells: row}
}
