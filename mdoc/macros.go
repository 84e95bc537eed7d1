package mdoc

import (
	"strings"

	"flong/api"
	"flong/styles"
)

// macro does what a macro tells that is no line of glyphs.
func (r *reader) macro(x api.Row) {
	heading := api.Sub
	switch x.Macro {
	case "Dd":
		r.title.Date = strings.Join(x.Args, " ")
	case "Dt":
		r.named(x)
	case "Os":
		r.title.Source = strings.Join(x.Args, " ")
	case "Sh":
		heading = api.Section
		fallthrough
	case "Ss":
		r.heading(heading, x)
	case "Pp":
		r.told.End()
	case "Bl":
		r.list(x)
	case "It":
		r.item(x)
	case "El":
		r.closeIf(r.innermost().isList(), x)
	case "Bd":
		r.display(x)
	case "Ed":
		r.closeIf(r.innermost().isDisplay(), x)
	default:
		r.tell(api.BadMacro, x.Line)
	}
}

func (r *reader) named(x api.Row) {
	var args [2]string
	copy(args[:], x.Args)
	r.title.Name, r.title.Part = args[0], args[1]
	r.titled = true
}

// heading is a macro that opens a node of this kind, behind all that is open but what that may stand in.
func (r *reader) heading(kind int, x api.Row) {
	r.closeAll()
	r.told.Shut(api.Sub, api.Tag, api.Indent)
	if kind == api.Section {
		r.told.Shut(api.Section)
	}
	if len(x.Args) == 0 {
		r.tell(api.BadArgs, x.Line)
		return
	}
	l, wrong := styles.Words(api.Plain, x.Args...)
	r.wrong(x.Line, wrong)
	r.open(api.Node{Kind: kind, Line: x.Line, Text: l})
}
