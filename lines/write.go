package lines

import (
	"slices"
	"strings"

	"flong/api"
)

// Check tells ErrArg of a row that may not be written.
func Check(r api.Row) api.Errno {
	if isText(r) || isMacro(r) {
		return api.OK
	}
	return api.ErrArg
}

// Write is the lines of those rows that Check lets pass.
func Write(l ...api.Row) string {
	var s strings.Builder
	for _, r := range l {
		switch {
		case isText(r):
			s.WriteString(r.Text)
		case isMacro(r):
			s.WriteString("." + r.Macro)
			for _, a := range r.Args {
				s.WriteString(" " + Quoted(a))
			}
		default:
			continue
		}
		s.WriteString("\n")
	}
	return s.String()
}

// Same tells whether a and b are alike, row by row.
func Same(a []api.Row, b []api.Row) bool {
	return slices.EqualFunc(a, b, func(x, y api.Row) bool {
		return x.Line == y.Line && x.Macro == y.Macro && x.Text == y.Text && slices.Equal(x.Args, y.Args)
	})
}

func isText(r api.Row) bool {
	if r.Macro != "" || len(r.Args) > 0 || pointed(r.Text) {
		return false
	}
	return !strings.HasSuffix(r.Text, "\r") && !strings.ContainsAny(r.Text, "\n\\")
}

func isMacro(r api.Row) bool {
	if r.Macro == "" || r.Text != "" || pointed(r.Macro) || strings.ContainsAny(r.Macro, blanks+"\n\r\\\"") {
		return false
	}
	return len(r.Args) <= api.MaxArgs && !slices.ContainsFunc(r.Args, func(a string) bool {
		return strings.ContainsAny(a, "\n\r\\")
	})
}
