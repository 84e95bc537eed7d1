package man

import (
	"flong/api"
	"flong/build"
	"flong/cells"
	"flong/styles"
	"flong/tbl"
)

// reader is rows that are being read, one by one, and what they have told so far.
type reader struct {
	told   *build.Builder
	titled bool      // whether there was a title
	waits  *api.Node // what is opened with the glyphs of the next line, or nil
	block  api.Node  // the Verb or Grid that rows are a part of; of no Kind, if they are of none
	texts  []string  // the lines of that Grid
	diags  []api.Diag
}

// tell tells that something is wrong with a line.
func (r *reader) tell(kind int, line int) {
	r.diags = append(r.diags, api.Diag{Kind: kind, Line: line})
}

// line takes a row that is a line of a table, or of glyphs, and tells whether it is one. In a table only a text is.
func (r *reader) line(x api.Row) bool {
	if r.block.Kind == api.Grid {
		if x.Macro == "" {
			r.texts = append(r.texts, x.Text)
		}
		return x.Macro == ""
	}
	l, wrong, ok := Inline(x)
	if ok {
		r.diags = append(r.diags, wrong...)
		r.glyphs(x, l)
	}
	return ok
}

// glyphs puts those of a row where they belong.
func (r *reader) glyphs(x api.Row, l []api.Glyph) {
	switch {
	case x.Macro != "" && len(x.Args) == 0:
		r.tell(api.BadArgs, x.Line)
	case r.block.Kind == api.Verb:
		r.block.Rows = append(r.block.Rows, l)
	case r.waits != nil:
		y := *r.waits
		r.waits = nil
		y.Text = l
		r.open(y)
	case x.Macro == "" && len(cells.Trim(l...)) == 0:
		r.told.End()
	default:
		r.told.Text(l, x.Line)
	}
}

// here is whether a macro that is no line may stand here.
func (r *reader) here(macro string) bool {
	switch r.block.Kind {
	case api.Verb:
		return macro == "EE" || macro == "fi"
	case api.Grid:
		return macro == "TE"
	}
	return true
}

// unwait waits for no line any more, and tells if there was one to come.
func (r *reader) unwait() {
	if r.waits != nil {
		r.tell(api.BadArgs, r.waits.Line)
		r.waits = nil
	}
}

// open opens a node, unless it would stand within too many others.
func (r *reader) open(x api.Node) {
	if r.told.Depth() >= api.MaxDeep {
		r.tell(api.TooDeep, x.Line)
		return
	}
	r.told.Open(x)
}

// words is the glyphs of some of a row's arguments, set plain.
func (r *reader) words(line int, args ...string) []api.Glyph {
	l, wrong := styles.Words(api.Plain, args...)
	r.diags = append(r.diags, at(line, wrong)...)
	return l
}

// step is how far in an argument of a row tells that something is to stand.
func (r *reader) step(x api.Row, arg int) int {
	if arg >= len(x.Args) {
		return usual
	}
	n, ok := Number(x.Args[arg], usual)
	if !ok {
		r.tell(api.BadArgs, x.Line)
	}
	return n
}

// add ends the block, and adds it to what is told.
func (r *reader) add() {
	x := r.block
	r.block = api.Node{}
	switch x.Kind {
	case api.Grid:
		t, wrong := tbl.Parse(x.Line+1, r.texts...)
		r.diags = append(r.diags, wrong...)
		x.Grid, r.texts = t, nil
		fallthrough
	case api.Verb:
		r.told.Add(x)
	}
}

// end ends what is not ended when there are no more rows.
func (r *reader) end() {
	r.unwait()
	if r.block.Kind != 0 {
		r.tell(api.NotClosed, r.block.Line)
		r.add()
	}
	if !r.titled {
		r.tell(api.NoTitle, 0)
	}
}
