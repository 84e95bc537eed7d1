package man

import "flong/api"

// macros is what each macro does that is no line of glyphs.
func (r *reader) macros() map[string]func(x api.Row) {
	return map[string]func(x api.Row){
		"TH": r.title,
		"SH": r.heading(api.Section, api.Section, api.Sub, api.Tag, api.Indent),
		"SS": r.heading(api.Sub, api.Sub, api.Tag, api.Indent),
		"PP": r.paragraph,
		"P":  r.paragraph,
		"LP": r.paragraph,
		"TP": r.tagged,
		"IP": r.item,
		"RS": r.indent,
		"RE": r.outdent,
		"EX": r.begins(api.Verb),
		"nf": r.begins(api.Verb),
		"EE": r.ends(api.Verb),
		"fi": r.ends(api.Verb),
		"TS": r.begins(api.Grid),
		"TE": r.ends(api.Grid),
	}
}

func (r *reader) title(x api.Row) {
	if r.titled {
		r.tell(api.NotHere, x.Line)
		return
	}
	r.titled = true
	var args [4]string
	copy(args[:], x.Args)
	r.told.Title(args[0], args[1], args[2], args[3])
}

// heading is a macro of headings of this kind, that shuts what is of those.
func (r *reader) heading(kind int, shut ...int) func(x api.Row) {
	return func(x api.Row) {
		r.told.Shut(shut...)
		y := api.Node{Kind: kind, Line: x.Line}
		if len(x.Args) == 0 {
			r.waits = &y
			return
		}
		y.Text = r.words(x.Line, x.Args...)
		r.open(y)
	}
}

func (r *reader) paragraph(api.Row) {
	r.told.Shut(api.Tag)
}

func (r *reader) tagged(x api.Row) {
	r.told.Shut(api.Tag)
	r.waits = &api.Node{Kind: api.Tag, Line: x.Line, N: r.step(x, 0)}
}

func (r *reader) item(x api.Row) {
	r.told.Shut(api.Tag)
	y := api.Node{Kind: api.Tag, Line: x.Line}
	y.Text = r.words(x.Line, x.Args[:min(len(x.Args), 1)]...)
	y.N = r.step(x, 1)
	r.open(y)
}

func (r *reader) indent(x api.Row) {
	r.open(api.Node{Kind: api.Indent, Line: x.Line, N: r.step(x, 0)})
}

func (r *reader) outdent(x api.Row) {
	if !r.told.Close(api.Indent) {
		r.tell(api.NotOpen, x.Line)
	}
}

// begins is a macro that begins a block of this kind.
func (r *reader) begins(kind int) func(x api.Row) {
	return func(x api.Row) {
		r.told.End()
		r.block = api.Node{Kind: kind, Line: x.Line}
	}
}

// ends is a macro that ends a block of this kind.
func (r *reader) ends(kind int) func(x api.Row) {
	return func(x api.Row) {
		if r.block.Kind != kind {
			r.tell(api.NotOpen, x.Line)
			return
		}
		r.add()
	}
}
