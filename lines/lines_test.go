package lines_test

import (
	"slices"
	"strings"
	"testing"

	"flong/api"
	"flong/lines"
)

func text(line int, s string) api.Row {
	return api.Row{Line: line, Text: s}
}

func macro(line int, name string, args ...string) api.Row {
	return api.Row{Line: line, Macro: name, Args: args}
}

// equal tells whether a and b are alike, asking nothing of package lines.
func equal(a, b []api.Row) bool {
	return slices.EqualFunc(a, b, func(x, y api.Row) bool {
		same := slices.Equal(x.Args, y.Args)
		return same && x.Line == y.Line && x.Macro == y.Macro && x.Text == y.Text
	})
}

type read struct {
	s     string
	rows  []api.Row
	diags []api.Diag
}

func try(t *testing.T, list []read) {
	t.Helper()
	for _, c := range list {
		rows, diags := lines.Read(c.s)
		if !equal(rows, c.rows) || !slices.Equal(diags, c.diags) {
			t.Errorf("Read of %+q: %#v %v, want %#v %v", c.s, rows, diags, c.rows, c.diags)
		}
	}
}

func TestReadLines(t *testing.T) {
	try(t, []read{
		{"", nil, nil},
		{"\n", []api.Row{text(1, "")}, nil},
		{"\n\n", []api.Row{text(1, ""), text(2, "")}, nil},
		{"a", []api.Row{text(1, "a")}, nil},
		{"a\n", []api.Row{text(1, "a")}, nil},
		{"a\n\n", []api.Row{text(1, "a"), text(2, "")}, nil},
		{"a\n\nb", []api.Row{text(1, "a"), text(2, ""), text(3, "b")}, nil},
		{" a\tb \n.x\n \n", []api.Row{text(1, " a\tb "), macro(2, "x"), text(3, " ")}, nil},
		{"a.b\n a\n .b\n\t'c", []api.Row{text(1, "a.b"), text(2, " a"), text(3, " .b"), text(4, "\t'c")}, nil},
		{"a\x00\xff\u2028\v\fb\x85", []api.Row{text(1, "a\x00\xff\u2028\v\fb\x85")}, nil},
	})
}

// One carriage return is left out, and only where a line ends.
func TestReadCarriageReturns(t *testing.T) {
	try(t, []read{
		{"a\r\nb\r\n", []api.Row{text(1, "a"), text(2, "b")}, nil},
		{"a\r", []api.Row{text(1, "a")}, nil},
		{"a\r\r\n", []api.Row{text(1, "a\r")}, nil},
		{"a\rb\n\rc\n", []api.Row{text(1, "a\rb"), text(2, "\rc")}, nil},
		{"\r\n", []api.Row{text(1, "")}, nil},
		{"\r", []api.Row{text(1, "")}, nil},
		{"a\n\r", []api.Row{text(1, "a"), text(2, "")}, nil},
		{".x a\r\n.\r\n", []api.Row{macro(1, "x", "a")}, nil},
		{".x\ra b\r\r\n", []api.Row{macro(1, "x\ra", "b\r")}, nil},
		{"a\\\r\nb\\\r", []api.Row{text(1, "ab")}, nil},
		{"a\r\\\nb", []api.Row{text(1, "a\rb")}, nil},
		{"a\r\\\"b\r\nc", []api.Row{text(1, "a\r"), text(2, "c")}, nil},
		{"a\\\r\r\nb", []api.Row{text(1, "a\\\r"), text(2, "b")}, nil},
	})
}

func TestReadMacros(t *testing.T) {
	try(t, []read{
		{".B", []api.Row{macro(1, "B")}, nil},
		{"'B", []api.Row{macro(1, "B")}, nil},
		{".B a b", []api.Row{macro(1, "B", "a", "b")}, nil},
		{". \t B\t a\t\tb \t", []api.Row{macro(1, "B", "a", "b")}, nil},
		{"..", []api.Row{macro(1, ".")}, nil},
		{".'", []api.Row{macro(1, "'")}, nil},
		{"'.x .y 'z", []api.Row{macro(1, ".x", ".y", "'z")}, nil},
		{". .x", []api.Row{macro(1, ".x")}, nil},
		{".\"a b\"", []api.Row{macro(1, "\"a", "b\"")}, nil},
		{".a\"b c\"", []api.Row{macro(1, "a\"b", "c\"")}, nil},
		{".a\u4e00\xff\u00a0b c", []api.Row{macro(1, "a\u4e00\xff\u00a0b", "c")}, nil},
		// A name ends at any blank, whatever stands ahead of that.
		{".a\\ b", []api.Row{macro(1, "a\\", "b")}, nil},
		{".\\e x", []api.Row{macro(1, "\\e", "x")}, nil},
	})
}

// A macro without a name is no row, but a line it is.
func TestReadMacrosWithoutName(t *testing.T) {
	try(t, []read{
		{".", nil, nil},
		{"'", nil, nil},
		{".\n'\n. \n'\t\n.  \t \na", []api.Row{text(6, "a")}, nil},
		{".\\\n\nb", []api.Row{text(3, "b")}, nil},
		{".\\\n \\\n\t", nil, nil},
	})
}

func TestReadArgs(t *testing.T) {
	bad := func(l ...int) []api.Diag {
		var out []api.Diag
		for _, line := range l {
			out = append(out, api.Diag{Kind: api.BadArgs, Line: line})
		}
		return out
	}
	try(t, []read{
		{".B \"a b\" c", []api.Row{macro(1, "B", "a b", "c")}, nil},
		{".B \"a\"\"b\"c", []api.Row{macro(1, "B", "a\"b", "c")}, nil},
		{".B \"a b", []api.Row{macro(1, "B", "a b")}, bad(1)},
		{".B \"", []api.Row{macro(1, "B", "")}, bad(1)},
		{"\n.B x \"a \n.C \"\"\"\na\n.D\t\"", []api.Row{text(1, ""), macro(2, "B", "x", "a "), macro(3, "C", "\""), text(4, "a"), macro(5, "D", "")}, bad(2, 3, 5)},
		{"\"a b\nx \"y", []api.Row{text(1, "\"a b"), text(2, "x \"y")}, nil},
		{".x a\\ b\tc\\\\ d", []api.Row{macro(1, "x", "a\\ b", "c\\\\", "d")}, nil},
		// What is behind a comment's begin is left out first.
		{".x \"a \\\" b\"", []api.Row{macro(1, "x", "a ")}, bad(1)},
		// The line is the first one of those that are put together.
		{"a\n.x\\\n \\\n\"b\nc", []api.Row{text(1, "a"), macro(2, "x", "b"), text(5, "c")}, bad(2)},
	})
}

func TestReadTooMany(t *testing.T) {
	many := func(n int) []string {
		return slices.Repeat([]string{"a"}, n)
	}
	line := func(n int) string {
		return ".x" + strings.Repeat(" a", n)
	}
	wrong := func(l ...int) []api.Diag {
		var out []api.Diag
		for _, kind := range l {
			out = append(out, api.Diag{Kind: kind, Line: 2})
		}
		return out
	}
	rows := func(args []string) []api.Row {
		return []api.Row{text(1, ""), macro(2, "x", args...), text(3, "b")}
	}
	most := many(api.MaxArgs)
	try(t, []read{
		{"\n" + line(199) + "\nb", rows(most[:199]), nil},
		{"\n" + line(200) + "\nb", rows(most), nil},
		{"\n" + line(201) + "\nb", rows(most), wrong(api.TooMany)},
		{"\n" + line(1000) + "\nb", rows(most), wrong(api.TooMany)},
		{"\n" + line(199) + " \"c\nb", rows(append(many(199), "c")), wrong(api.BadArgs)},
		{"\n" + line(200) + " \"c\nb", rows(most), wrong(api.BadArgs, api.TooMany)},
		{"\n" + line(200) + " \"c\"d\nb", rows(most), wrong(api.TooMany)},
		{"\n" + line(199) + " \"c\"d\nb", rows(append(many(199), "c")), wrong(api.TooMany)},
	})
}

func TestReadComments(t *testing.T) {
	try(t, []read{
		{`\"`, nil, nil},
		{"\\\" a\n\\\"b\nc", []api.Row{text(3, "c")}, nil},
		{"a\\\" b\nc", []api.Row{text(1, "a"), text(2, "c")}, nil},
		{"a \\\"\\\"\\\n", []api.Row{text(1, "a ")}, nil},
		{".\\\" a\n'\\\" a\n. \\\"\n'\t \\\"a\nb", []api.Row{text(5, "b")}, nil},
		{".B x \\\" y", []api.Row{macro(1, "B", "x")}, nil},
		{".B\\\"x y", []api.Row{macro(1, "B")}, nil},
		{".B a\\\"b", []api.Row{macro(1, "B", "a")}, nil},
		// Blanks ahead of it are a text.
		{" \\\"a\n\t\\\"\n", []api.Row{text(1, " "), text(2, "\t")}, nil},
		{" .\\\"a", []api.Row{text(1, " .")}, nil},
		// With an odd number of backslashes ahead of its own, it is none.
		{`a\\"b`, []api.Row{text(1, `a\\"b`)}, nil},
		{`a\\\"b`, []api.Row{text(1, `a\\`)}, nil},
		{`a\\\\"b`, []api.Row{text(1, `a\\\\"b`)}, nil},
		{`a\\\\\"b`, []api.Row{text(1, `a\\\\`)}, nil},
		{`\\"`, []api.Row{text(1, `\\"`)}, nil},
		{`\\\"`, []api.Row{text(1, `\\`)}, nil},
		{`\\"\"a`, []api.Row{text(1, `\\"`)}, nil},
		{`a"b\e"c`, []api.Row{text(1, `a"b\e"c`)}, nil},
		{`\ "`, []api.Row{text(1, `\ "`)}, nil},
	})
}

func TestReadGoesOn(t *testing.T) {
	try(t, []read{
		{"a\\\nb", []api.Row{text(1, "ab")}, nil},
		{"a\\\nb\\\n.c\nd", []api.Row{text(1, "ab.c"), text(4, "d")}, nil},
		{"a\\\\\nb", []api.Row{text(1, "a\\\\"), text(2, "b")}, nil},
		{"a\\\\\\\nb", []api.Row{text(1, "a\\\\b")}, nil},
		{"a\\\\\\\n\\\\\\\n\\b", []api.Row{text(1, "a\\\\\\\\\\b")}, nil},
		{"a\\\\\\\n\\\\\nb", []api.Row{text(1, "a\\\\\\\\"), text(3, "b")}, nil},
		{"\n.B a\\\nb \\\n\"c d\"\n.C", []api.Row{text(1, ""), macro(2, "B", "ab", "c d"), macro(5, "C")}, nil},
		{".\\\nB\\\n x", []api.Row{macro(1, "B", "x")}, nil},
		{"\\\n.B x", []api.Row{macro(1, "B", "x")}, nil},
		{"\\\n\\\n\nx", []api.Row{text(1, ""), text(4, "x")}, nil},
		{"a\\ \nb", []api.Row{text(1, "a\\ "), text(2, "b")}, nil},
		// What was put together is read as one line: a quotation that begins in it ends in it.
		{".x \"a\\\nb\" c\\\n\"d", []api.Row{macro(1, "x", "ab", "c\"d")}, nil},
		{".x a\\\\\\\n b", []api.Row{macro(1, "x", "a\\\\", "b")}, nil},
	})
}

func TestReadGoesOnToNothing(t *testing.T) {
	try(t, []read{
		{"a\\", []api.Row{text(1, "a")}, nil},
		{"a\\\n", []api.Row{text(1, "a")}, nil},
		{"a\\\n\n", []api.Row{text(1, "a")}, nil},
		{"a\\\n\\", []api.Row{text(1, "a")}, nil},
		{"\\", []api.Row{text(1, "")}, nil},
		{"\\\n", []api.Row{text(1, "")}, nil},
		{"\\\\\\", []api.Row{text(1, "\\\\")}, nil},
		{".x\\", []api.Row{macro(1, "x")}, nil},
		{".x \"a\\", []api.Row{macro(1, "x", "a")}, []api.Diag{{Kind: api.BadArgs, Line: 1}}},
		{".\\", nil, nil},
	})
}

// A comment ends a line, and is sought in each by itself.
func TestReadGoesOnToComment(t *testing.T) {
	try(t, []read{
		{"a\\\n\\\"x\nb\\", []api.Row{text(1, "a"), text(3, "b")}, nil},
		{"a\\\nb\\\"x\\\nc", []api.Row{text(1, "ab"), text(3, "c")}, nil},
		{"a\\\"x\\\nb", []api.Row{text(1, "a"), text(2, "b")}, nil},
		{"\\\"x\\\nb", []api.Row{text(2, "b")}, nil},
		{".\\\"x\\\nb", []api.Row{text(2, "b")}, nil},
		{"a\\\n\"x", []api.Row{text(1, "a\"x")}, nil},
		{"a\\\\\\\n\"x", []api.Row{text(1, "a\\\\\"x")}, nil},
		{"a\\\n\\\\\"x", []api.Row{text(1, "a\\\\\"x")}, nil},
		{"a\\\\\\\n\\\"x", []api.Row{text(1, "a\\\\")}, nil},
		// What is ahead of it in a line that is gone on with stays, as it would behind any other text.
		{"a\\\n. \\\"x\nb", []api.Row{text(1, "a. "), text(3, "b")}, nil},
		{".\\\n\\\"x\nb", []api.Row{text(3, "b")}, nil},
		{"\\\n. \\\"x\nb", []api.Row{text(3, "b")}, nil},
		// A line that went on without anything is one, and the comment is its end.
		{"\\\n\\\"x\nb", []api.Row{text(1, ""), text(3, "b")}, nil},
	})
}

func TestArgs(t *testing.T) {
	for _, c := range []struct {
		s    string
		want []string
		ok   bool
	}{
		{"", nil, true},
		{" \t ", nil, true},
		{"a", []string{"a"}, true},
		{" a\tb  c ", []string{"a", "b", "c"}, true},
		{`"a b" c`, []string{"a b", "c"}, true},
		{`""`, []string{""}, true},
		{`"" ""`, []string{"", ""}, true},
		{`""""`, []string{`"`}, true},
		{`""""""`, []string{`""`}, true},
		{`"a""b"`, []string{`a"b`}, true},
		{`"a"""b`, []string{`a"`, "b"}, true},
		{`"""a"b`, []string{`"a`, "b"}, true},
		{`"a"b`, []string{"a", "b"}, true},
		{`"a"b"c d"`, []string{"a", `b"c`, `d"`}, true},
		{`"a" "b"`, []string{"a", "b"}, true},
		{"\"\ta \"\t\"b\t\"", []string{"\ta ", "b\t"}, true},
		{`a"b c"`, []string{`a"b`, `c"`}, true},
		{`a""b`, []string{`a""b`}, true},
		// What begins with a quotation mark, and does not end.
		{`"`, []string{""}, false},
		{`"a b`, []string{"a b"}, false},
		{`a "b c `, []string{"a", "b c "}, false},
		{`"""`, []string{`"`}, false},
		{`"a""`, []string{`a"`}, false},
		{`"a"" b`, []string{`a" b`}, false},
		{`"a" "b""`, []string{"a", `b"`}, false},
		// A blank behind a backslash.
		{`a\ b`, []string{`a\ b`}, true},
		{"a\\\tb c", []string{"a\\\tb", "c"}, true},
		{`a\\ b`, []string{`a\\`, "b"}, true},
		{`a\\\ b`, []string{`a\\\ b`}, true},
		{`a\  b`, []string{`a\ `, "b"}, true},
		{`a\ \ \	b`, []string{"a\\ \\ \\\tb"}, true},
		{` \ `, []string{`\ `}, true},
		{`\ "a b"`, []string{`\ "a`, `b"`}, true},
		{`\`, []string{`\`}, true},
		{`a \`, []string{"a", `\`}, true},
		{`"a"\ b c`, []string{"a", `\ b`, "c"}, true},
		// In a quotation a backslash is nothing of its own.
		{`"a\ b\" c`, []string{`a\ b\`, "c"}, true},
		{`"a\""b" c`, []string{`a\"b`, "c"}, true},
		{`\"a b"`, []string{`\"a`, `b"`}, true},
		// Nothing else is a blank.
		{"a\nb\rc\vd\u00a0e", []string{"a\nb\rc\vd\u00a0e"}, true},
		{"\xff \u4e00\x00 \x80\\ \xfe", []string{"\xff", "\u4e00\x00", "\x80\\ \xfe"}, true},
	} {
		got, ok := lines.Args(c.s)
		if !slices.Equal(got, c.want) || ok != c.ok {
			t.Errorf("Args of %+q: %+q %v, want %+q %v", c.s, got, ok, c.want, c.ok)
		}
	}
}

// Args has no bound of its own.
func TestArgsMany(t *testing.T) {
	if l, ok := lines.Args(strings.Repeat("a ", 1000)); len(l) != 1000 || !ok {
		t.Error(len(l), ok)
	}
}

func TestExample(t *testing.T) {
	try(t, []read{{`.B "a b" c`, []api.Row{macro(1, "B", "a b", "c")}, nil}})
}
