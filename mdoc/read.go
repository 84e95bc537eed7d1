package mdoc

import (
	"slices"

	"flong/api"
	"flong/build"
	"flong/cells"
	"flong/styles"
)

// reader is rows that are being read, one by one, and what they have told so far.
type reader struct {
	told   *build.Builder
	title  api.Doc // what stands above and below it
	titled bool    // whether it was named
	name   string  // what Nm says
	blocks []*block
	diags  []api.Diag
}

// tell tells that something is wrong with a line.
func (r *reader) tell(kind int, line int) {
	r.diags = append(r.diags, api.Diag{Kind: kind, Line: line})
}

// wrong tells what is wrong with a line's text.
func (r *reader) wrong(line int, l []api.Diag) {
	for _, d := range l {
		d.Line = line
		r.diags = append(r.diags, d)
	}
}

// row reads the next row.
func (r *reader) row(x api.Row) {
	l, ok := r.inline(x)
	b := r.innermost()
	switch {
	case ok && b.isLiteral():
		b.rows = append(b.rows, l)
	case ok:
		r.glyphs(x, l)
	case b.isLiteral() && x.Macro != "Ed":
		r.tell(api.NotHere, x.Line)
	default:
		r.macro(x)
	}
}

// inline is the glyphs of a row, and whether it is one of glyphs.
func (r *reader) inline(x api.Row) ([]api.Glyph, bool) {
	switch {
	case x.Macro == "":
		l, _, wrong := styles.Line(api.Face{}, x.Text)
		r.wrong(x.Line, wrong)
		return l, true
	case Callable(x.Macro):
		return r.said(x.Line, slices.Concat([]string{x.Macro}, x.Args)...), true
	}
	return nil, false
}

// said is the glyphs of what words of a line say.
func (r *reader) said(line int, words ...string) []api.Glyph {
	l, name, wrong := Pieces(r.name, words...)
	r.name = name
	r.wrong(line, wrong)
	return Join(l...)
}

// glyphs puts those of a row into the paragraph, that a text of blanks ends.
func (r *reader) glyphs(x api.Row, l []api.Glyph) {
	if x.Macro == "" && len(cells.Trim(l...)) == 0 {
		r.told.End()
		return
	}
	r.told.Text(l, x.Line)
}

// open opens a node, unless it would stand within too many others, and tells whether it did.
func (r *reader) open(x api.Node) bool {
	if r.told.Depth() >= api.MaxDeep {
		r.tell(api.TooDeep, x.Line)
		return false
	}
	r.told.Open(x)
	return true
}

// end ends what is not ended when there are no more rows.
func (r *reader) end() {
	r.closeAll()
	if !r.titled {
		r.tell(api.NoTitle, 0)
	}
	t := r.title
	r.told.Title(t.Name, t.Part, t.Date, t.Source)
}
