package lines_test

import (
	"slices"
	"strings"
	"testing"

	"flong/api"
	"flong/lines"
)

func TestQuoted(t *testing.T) {
	for _, c := range [][2]string{
		{``, `""`},
		{`a`, `"a"`},
		{`a b`, `"a b"`},
		{`"`, `""""`},
		{`a"b""`, `"a""b"""""`},
		{`a\`, `"a\"`},
		{"\xff\n\r\t", "\"\xff\n\r\t\""},
	} {
		if got := lines.Quoted(c[0]); got != c[1] {
			t.Errorf("Quoted of %+q is %+q, want %+q", c[0], got, c[1])
		}
	}
}

// rightRows may be written, each as the line beside it.
func rightRows() map[string]api.Row {
	return map[string]api.Row{
		"":                            {},
		"a":                           {Text: "a", Line: 7},
		" .a ":                        {Text: " .a ", Args: []string{}},
		"a.'\"\rb\t":                  {Text: "a.'\"\rb\t"},
		"\r\r ":                       {Text: "\r\r "},
		"\x00\xff\u4e00\u2028":        {Text: "\x00\xff\u4e00\u2028"},
		".B":                          {Macro: "B", Line: -1},
		".a.b'":                       {Macro: "a.b'"},
		".\x00\xff\u00a0\v\u2028":     {Macro: "\x00\xff\u00a0\v\u2028"},
		`.B "a"`:                      {Macro: "B", Args: []string{"a"}},
		`.B "" "a b" "c""d" ".e"`:     {Macro: "B", Args: []string{"", "a b", `c"d`, ".e"}},
		".B \"\t\" \"\xff\" \"\"\"\"": {Macro: "B", Args: []string{"\t", "\xff", `"`}},
		".B" + strings.Repeat(` "a"`, api.MaxArgs): {Macro: "B", Args: slices.Repeat([]string{"a"}, api.MaxArgs)},
	}
}

// wrongRows may not be written.
func wrongRows() []api.Row {
	rows := []api.Row{
		{Text: "a", Args: []string{"b"}},
		{Args: []string{""}},
		{Text: "a\nb"}, {Text: "\n"}, {Text: "a\n"},
		{Text: "a\r"}, {Text: "\r"}, {Text: "\r\r"},
		{Text: ".a"}, {Text: "."}, {Text: "'a"}, {Text: "'"},
		{Text: `\`}, {Text: `a\b`}, {Text: `a\\`}, {Text: `a\"`},
		{Macro: "B", Text: "a"}, {Macro: "B", Text: " "},
		{Macro: ".B"}, {Macro: "."}, {Macro: "'B"}, {Macro: "'"},
		{Macro: "B", Args: slices.Repeat([]string{"a"}, api.MaxArgs+1)},
	}
	for _, c := range []string{" ", "\t", "\n", "\r", `\`, `"`} {
		rows = append(rows, api.Row{Macro: c}, api.Row{Macro: c + "B"}, api.Row{Macro: "B" + c}, api.Row{Macro: "A" + c + "B"})
	}
	for _, c := range []string{"\n", "\r", `\`} {
		for _, a := range []string{c, c + "a", "a" + c, "a" + c + "b"} {
			rows = append(rows, api.Row{Macro: "B", Args: []string{a}}, api.Row{Macro: "B", Args: []string{"", a}}, api.Row{Macro: "B", Args: []string{a, "b"}})
		}
	}
	return rows
}

func TestCheck(t *testing.T) {
	for _, r := range rightRows() {
		if e := lines.Check(r); e != api.OK {
			t.Errorf("%#v: %d", r, e)
		}
	}
	for _, r := range wrongRows() {
		if e := lines.Check(r); e != api.ErrArg {
			t.Errorf("%#v: %d", r, e)
		}
	}
}

// What is written is read, but for the numbers of lines.
func TestWrite(t *testing.T) {
	for want, r := range rightRows() {
		got := lines.Write(r)
		if got != want+"\n" {
			t.Errorf("%#v is written as %+q, want %+q", r, got, want)
		}
		r.Line = 1
		try(t, []read{{got, []api.Row{r}, nil}})
	}
}

func TestWriteLeavesOut(t *testing.T) {
	for _, r := range wrongRows() {
		if s := lines.Write(r); s != "" {
			t.Errorf("%#v is written as %+q", r, s)
		}
		if s := lines.Write(text(1, "a"), r, macro(3, "B", "b")); s != "a\n.B \"b\"\n" {
			t.Errorf("%#v, between two, is written as %+q", r, s)
		}
	}
	if s := lines.Write(); s != "" {
		t.Errorf("nothing is written as %+q", s)
	}
}

func TestWriteInOrder(t *testing.T) {
	got := lines.Write(macro(9, "B", `a"b`, ""), text(3, "x y"), text(0, ""), text(2, "x y"))
	if want := ".B \"a\"\"b\" \"\"\nx y\n\nx y\n"; got != want {
		t.Errorf("%+q, want %+q", got, want)
	}
}

func TestSame(t *testing.T) {
	l := []api.Row{text(1, "a"), macro(2, "B", "b", "c")}
	with := func(r api.Row) []api.Row {
		return []api.Row{l[0], r}
	}
	for _, c := range []struct {
		what string
		a, b []api.Row
		want bool
	}{
		{"nothing", nil, nil, true},
		{"nothing, and none", nil, []api.Row{}, true},
		{"nothing, and some", nil, l, false},
		{"nothing, and a row without anything", nil, []api.Row{{}}, false},
		{"alike", l, []api.Row{text(1, "a"), macro(2, "B", "b", "c")}, true},
		{"itself", l, l, true},
		{"a front", l, l[:1], false},
		{"another order", l, []api.Row{l[1], l[0]}, false},
		{"another line", l, with(macro(3, "B", "b", "c")), false},
		{"another macro", l, with(macro(2, "C", "b", "c")), false},
		{"another text", l, with(api.Row{Line: 2, Macro: "B", Args: []string{"b", "c"}, Text: "d"}), false},
		{"another argument", l, with(macro(2, "B", "b", "d")), false},
		{"another first argument", l, with(macro(2, "B", "a", "c")), false},
		{"fewer arguments", l, with(macro(2, "B", "b")), false},
		{"more arguments", l, with(macro(2, "B", "b", "c", "")), false},
		{"another first row", l, []api.Row{text(1, "b"), l[1]}, false},
		{"no arguments, and none", []api.Row{{Macro: "B"}}, []api.Row{{Macro: "B", Args: []string{}}}, true},
		{"no arguments, and one without anything", []api.Row{{Macro: "B"}}, []api.Row{macro(0, "B", "")}, false},
		{"text, and macro", []api.Row{{Text: "B"}}, []api.Row{{Macro: "B"}}, false},
		{"written alike", []api.Row{{Text: ".B"}}, []api.Row{{Macro: "B"}}, false},
		{"what may not be written", []api.Row{{Line: -1, Text: "\n", Args: []string{"a"}}}, []api.Row{{Line: -1, Text: "\n", Args: []string{"a"}}}, true},
	} {
		if lines.Same(c.a, c.b) != c.want || lines.Same(c.b, c.a) != c.want {
			t.Errorf("%s: not %v", c.what, c.want)
		}
	}
}
