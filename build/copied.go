package build

import (
	"slices"

	"flong/api"
)

// copied is x in memory of its own.
func copied(x api.Node) api.Node {
	x.Text = slices.Clone(x.Text)
	x.Rows = copiedRows(x.Rows)
	x.Grid.Rows = slices.Clone(x.Grid.Rows)
	for i, r := range x.Grid.Rows {
		x.Grid.Rows[i].Cells = copiedRows(r.Cells)
	}
	x.Kids = slices.Clone(x.Kids)
	for i, kid := range x.Kids {
		x.Kids[i] = copied(kid)
	}
	return x
}

func copiedRows(l [][]api.Glyph) [][]api.Glyph {
	rows := slices.Clone(l)
	for i, row := range rows {
		rows[i] = slices.Clone(row)
	}
	return rows
}
