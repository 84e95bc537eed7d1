package tree

import (
	"slices"

	"flong/api"
	"flong/styles"
)

// top is where the nodes of a document stand: within none of any kind.
const top = 0

// place is where nodes stand: within one of the kind in, and so deep. Each node that comes is asked once whether it counts.
type place struct {
	in     int
	deep   int
	counts func() bool
}

// Check tells whether a document may be.
func Check(d api.Doc) api.Errno {
	switch {
	case Count(d.Kids...) > api.MaxNodes, Deep(d.Kids...) > api.MaxDeep:
		return api.ErrLong
	case !fit(top, d.Kids...):
		return api.ErrArg
	}
	return api.OK
}

// Tidy is d with its nodes put right.
func Tidy(d api.Doc) api.Doc {
	left := api.MaxNodes
	counts := func() bool {
		left--
		return left >= 0
	}
	d.Kids = place{in: top, counts: counts}.put(nil, d.Kids...)
	return d
}

// fit is whether all these may stand within a node of the kind in, and whatever is in them too.
func fit(in int, l ...api.Node) bool {
	wrong := func(x api.Node) bool {
		return !stands(in, x.Kind) || !sound(x) || !fit(x.Kind, x.Kids...)
	}
	return !slices.ContainsFunc(l, wrong)
}

// stands is whether a node of this kind may stand within one of the kind in.
func stands(in, kind int) bool {
	switch kind {
	case api.Section:
		return in == top
	case api.Sub:
		return in == api.Section
	}
	return true
}

// sound is whether x has what its kind needs, and nothing that it may not have.
func sound(x api.Node) bool {
	within := func(n, most int) bool {
		return n >= 0 && n <= most
	}
	y := own(x)
	switch {
	case lacks(x), !alike(x, y), len(x.Kids) != len(y.Kids):
		return false
	case x.Kind == api.Grid && !Right(x.Grid):
		return false
	}
	return within(x.Line, api.MaxPlace) && within(x.N, api.MaxStep) && Squeezed(x.Text)
}

// own is x with what its kind may have, as it is, and nothing else.
func own(x api.Node) api.Node {
	y := api.Node{Kind: x.Kind, Line: x.Line}
	switch x.Kind {
	case api.Section, api.Sub:
		y.Kids = x.Kids
		fallthrough
	case api.Para:
		y.Text = x.Text
	case api.Tag:
		y.Text = x.Text
		fallthrough
	case api.Indent:
		y.N, y.Kids = x.N, x.Kids
	case api.Verb:
		y.Rows = x.Rows
	case api.Grid:
		y.Grid = x.Grid
	}
	return y
}

// lacks is whether x is without what a node of its kind is for.
func lacks(x api.Node) bool {
	switch x.Kind {
	case api.Section, api.Sub, api.Para:
		return len(x.Text) == 0
	case api.Tag:
		return false
	case api.Indent:
		return len(x.Kids) == 0
	case api.Verb:
		return len(x.Rows) == 0
	case api.Grid:
		return len(x.Grid.Rows) == 0
	}
	return true
}

// put is what stands ahead, and behind it what these nodes become at this place.
func (p place) put(ahead []api.Node, l ...api.Node) []api.Node {
	for _, x := range l {
		switch {
		case !p.counts():
			return ahead
		case p.deep == api.MaxDeep:
			p.leave(x.Kids...)
		default:
			ahead = p.one(ahead, x)
		}
	}
	return ahead
}

// one is what stands ahead, and behind it what x becomes at this place. An Indent may have lost all its Kids, so what x lacks is asked behind them.
func (p place) one(ahead []api.Node, x api.Node) []api.Node {
	y := mended(x)
	switch x.Kind {
	case api.Section, api.Sub:
		if !stands(p.in, x.Kind) || lacks(y) {
			y.Kind = api.Para
			return p.put(add(ahead, y), x.Kids...)
		}
		fallthrough
	case api.Tag, api.Indent:
		y.Kids = place{in: x.Kind, deep: p.deep + 1, counts: p.counts}.put(nil, x.Kids...)
	default:
		p.leave(x.Kids...)
	}
	return add(ahead, y)
}

// leave counts nodes that are left out with the one that they are within: they have come, too.
func (p place) leave(l ...api.Node) {
	for _, x := range l {
		if !p.counts() {
			return
		}
		p.leave(x.Kids...)
	}
}

// add is what stands ahead, and x behind it, if that has what it needs.
func add(ahead []api.Node, x api.Node) []api.Node {
	if lacks(x) {
		return ahead
	}
	return append(ahead, x)
}

// mended is x with what its kind may have, put right, but without its Kids.
func mended(x api.Node) api.Node {
	y := own(x)
	y.Kids = nil
	y.Line = min(max(y.Line, 0), api.MaxPlace)
	y.N = min(max(y.N, 0), api.MaxStep)
	y.Text = styles.Squeeze(y.Text...)
	y.Rows = copied(y.Rows)
	if x.Kind == api.Grid {
		y.Grid = Mend(y.Grid)
	}
	return y
}

// copied is these rows, in memory of their own.
func copied(l [][]api.Glyph) [][]api.Glyph {
	rows := slices.Clone(l)
	for i, row := range rows {
		rows[i] = slices.Clone(row)
	}
	return rows
}
