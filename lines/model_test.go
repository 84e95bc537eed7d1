package lines_test

import (
	"math/rand"
	"regexp"
	"slices"
	"strings"
	"testing"

	"flong/api"
	"flong/lines"
)

// What the chapter says of a line's parts, as patterns. A backslash is read with what is behind it, so that one of an even number is no other's.
var (
	commented = regexp.MustCompile(`(?s)^((?:\\[^"]|[^\\])*)\\".*$`)
	goingOn   = regexp.MustCompile(`(?s)^((?:\\.|[^\\])*)\\$`)
	macroLine = regexp.MustCompile(`(?s)^[.'][ \t]*([^ \t]*)(.*)$`)
	quotation = regexp.MustCompile(`(?s)^"((?:[^"]|"")*)("?)`)
	argument  = regexp.MustCompile(`(?s)^(?:\\.|\\$|[^ \t\\])+`)
	rightText = regexp.MustCompile(`(?s)^(?:|[^.'\n\r\\]|[^.'\n\\][^\n\\]*[^\n\r\\])$`)
	rightName = regexp.MustCompile(`(?s)^[^.' \t\n\r\\"][^ \t\n\r\\"]*$`)
	rightArg  = regexp.MustCompile(`(?s)^[^\n\r\\]*$`)
)

func modelArgs(s string) ([]string, bool) {
	var l []string
	for s = strings.TrimLeft(s, " \t"); s != ""; s = strings.TrimLeft(s, " \t") {
		m := quotation.FindStringSubmatch(s)
		if m == nil {
			m = []string{argument.FindString(s)}
			l = append(l, m[0])
		} else {
			l = append(l, strings.ReplaceAll(m[1], `""`, `"`))
			if m[2] == "" {
				return l, false
			}
		}
		s = s[len(m[0]):]
	}
	return l, true
}

// modelLines is s cut at its line feeds.
func modelLines(s string) []string {
	l := strings.Split(s, "\n")
	if l[len(l)-1] == "" {
		l = l[:len(l)-1]
	}
	for i := range l {
		if strings.HasSuffix(l[i], "\r") {
			l[i] = l[i][:len(l[i])-1]
		}
	}
	return l
}

// modelRead puts lines together, from the one at which each row begins on.
func modelRead(s string) ([]api.Row, []api.Diag) {
	var rows []api.Row
	var diags []api.Diag
	l := modelLines(s)
	for at := 0; at < len(l); at++ {
		first, whole := at+1, ""
		for {
			if m := commented.FindStringSubmatch(l[at]); m != nil {
				if whole += m[1]; m[1] == "" && at+1 == first {
					whole = "."
				}
				break
			}
			m := goingOn.FindStringSubmatch(l[at])
			if m == nil {
				whole += l[at]
				break
			}
			whole += m[1]
			if at+1 == len(l) {
				break
			}
			at++
		}
		m := macroLine.FindStringSubmatch(whole)
		switch {
		case m == nil:
			rows = append(rows, api.Row{Line: first, Text: whole})
			continue
		case m[1] == "":
			continue
		}
		args, ok := modelArgs(m[2])
		if !ok {
			diags = append(diags, api.Diag{Kind: api.BadArgs, Line: first})
		}
		if len(args) > 200 {
			args = args[:200]
			diags = append(diags, api.Diag{Kind: api.TooMany, Line: first})
		}
		rows = append(rows, api.Row{Line: first, Macro: m[1], Args: args})
	}
	return rows, diags
}

func modelCheck(r api.Row) api.Errno {
	right := rightText.MatchString(r.Text) && len(r.Args) == 0
	if r.Macro != "" {
		right = rightName.MatchString(r.Macro) && r.Text == "" && len(r.Args) <= 200
		for _, a := range r.Args {
			right = right && rightArg.MatchString(a)
		}
	}
	if right {
		return api.OK
	}
	return api.ErrArg
}

// anyText is made of what lines and arguments begin and end with, for the most part.
func anyText(r *rand.Rand, n int) string {
	parts := []string{
		`\`, `\`, `\`, `\\`, `"`, `"`, `""`, `\"`, `\"`, " ", " ", "\t", "\\ ", "\n", "\n", "\n", "\r\n", "\\\n", "\r",
		".", "'", "\n.", "\n'", ".B ", "\n.x ", "a", "a", "b", "\u4e00", "\x00", "\xff", "\u00a0", "\u2028", "\v",
	}
	var s strings.Builder
	for range r.Intn(n) {
		s.WriteString(parts[r.Intn(len(parts))])
	}
	return s.String()
}

func TestReadAnyText(t *testing.T) {
	r := rand.New(rand.NewSource(21))
	for i := range 300000 {
		s := anyText(r, 2+i%16)
		rows, diags := lines.Read(s)
		wantRows, wantDiags := modelRead(s)
		if !equal(rows, wantRows) || !slices.Equal(diags, wantDiags) {
			t.Fatalf("Read of %+q: %#v %v, want %#v %v", s, rows, diags, wantRows, wantDiags)
		}
		if !lines.Same(rows, wantRows) {
			t.Fatalf("Same of %#v", rows)
		}
	}
}

// every calls f with each text of up to n of these bytes.
func every(bytes string, n int, f func(string)) {
	var next func(string)
	next = func(s string) {
		f(s)
		if len(s) < n {
			for _, c := range []byte(bytes) {
				next(s + string(rune(c)))
			}
		}
	}
	next("")
}

func TestReadEveryShortText(t *testing.T) {
	every("a\\\" .\n\r", 6, func(s string) {
		rows, diags := lines.Read(s)
		wantRows, wantDiags := modelRead(s)
		if !equal(rows, wantRows) || !slices.Equal(diags, wantDiags) {
			t.Fatalf("Read of %+q: %#v %v, want %#v %v", s, rows, diags, wantRows, wantDiags)
		}
	})
}

func TestArgsOfEveryShortText(t *testing.T) {
	every("a\\\" \t", 7, func(s string) {
		args, ok := lines.Args(s)
		want, wantOK := modelArgs(s)
		if !slices.Equal(args, want) || ok != wantOK {
			t.Fatalf("Args of %+q: %+q %v, want %+q %v", s, args, ok, want, wantOK)
		}
	})
}

// What is read is made of rows that may be: each has a line of its own, and no field that its kind hasn't.
func TestReadTellsWhatMayBe(t *testing.T) {
	r := rand.New(rand.NewSource(22))
	for range 100000 {
		s := anyText(r, 24)
		rows, diags := lines.Read(s)
		last := 0
		for _, x := range rows {
			if x.Line <= last || x.Line > strings.Count(s, "\n")+1 || x.Macro != "" && x.Text != "" || x.Macro == "" && len(x.Args) > 0 {
				t.Fatalf("Read of %+q: %#v", s, rows)
			}
			last = x.Line
		}
		for _, d := range diags {
			there := slices.ContainsFunc(rows, func(x api.Row) bool { return x.Line == d.Line && x.Macro != "" })
			if d.Kind != api.BadArgs || d.Col != 0 || !there {
				t.Fatalf("Read of %+q: %v", s, diags)
			}
		}
	}
}

// anyRow is one that may be written, often enough.
func anyRow(r *rand.Rand) api.Row {
	words := []string{"", "", "a", "B", "a b", ".", "'", ".a", "a.", `"`, `a"b`, "\t", " ", "\r", "a\r", "\ra", "\n", `\`, `a\b`, `\"`, "\u4e00", "\xff", "\x00"}
	word := func() string {
		return words[r.Intn(len(words))]
	}
	row := api.Row{Line: r.Intn(9) - 1, Text: word() + word()}
	if r.Intn(2) == 0 {
		row.Macro = word() + word()
		if r.Intn(9) > 0 {
			row.Text = ""
		}
		for range r.Intn(4) {
			row.Args = append(row.Args, word()+word())
		}
	}
	return row
}

// What is written is read: all rows that may be, in order, and nothing is wrong.
func TestWriteIsRead(t *testing.T) {
	r := rand.New(rand.NewSource(23))
	for range 100000 {
		var rows, want []api.Row
		for range r.Intn(6) {
			row := anyRow(r)
			rows = append(rows, row)
			e := modelCheck(row)
			if got := lines.Check(row); got != e {
				t.Fatalf("Check of %#v: %d, want %d", row, got, e)
			}
			if e == api.OK {
				row.Line = len(want) + 1
				want = append(want, row)
			}
		}
		s := lines.Write(rows...)
		got, diags := lines.Read(s)
		if !equal(got, want) || len(diags) > 0 {
			t.Fatalf("%#v is written as %+q, read as %#v %v", rows, s, got, diags)
		}
	}
}

// Whatever is quoted is read as it was, alone and beside others.
func TestQuotedIsRead(t *testing.T) {
	r := rand.New(rand.NewSource(24))
	for range 100000 {
		a, b := anyText(r, 8), anyText(r, 8)
		if got, ok := lines.Args(lines.Quoted(a)); !ok || !slices.Equal(got, []string{a}) {
			t.Fatalf("Args of %+q, quoted: %+q %v", a, got, ok)
		}
		if got, ok := lines.Args(lines.Quoted(a) + " " + lines.Quoted(b)); !ok || !slices.Equal(got, []string{a, b}) {
			t.Fatalf("Args of %+q and %+q, quoted: %+q %v", a, b, got, ok)
		}
	}
}

// What comes out is written over, and on behind: what else comes out of that call, and of another one, stays.
func TestNothingIsShared(t *testing.T) {
	s := "a\n.B a b c d e\n.C a b \"c\n.D" + strings.Repeat(" a", 300) + "\n.E b \"c\nd"
	wantRows, wantDiags := modelRead(s)
	wantArgs, _ := modelArgs("a b c")
	for range 3 {
		rows, diags := lines.Read(s)
		args, _ := lines.Args("a b c")
		if !equal(rows, wantRows) || !slices.Equal(diags, wantDiags) || !slices.Equal(args, wantArgs) {
			t.Fatal(rows, diags, args)
		}
		for i, row := range rows {
			for j := range row.Args[:cap(row.Args)] {
				row.Args[:cap(row.Args)][j] = "?"
			}
			if !equal(rows[i+1:], wantRows[i+1:]) {
				t.Fatal(rows[i+1:])
			}
		}
		for i := range args[:cap(args)] {
			args[:cap(args)][i] = "?"
		}
		for i := range rows[:cap(rows)] {
			rows[:cap(rows)][i] = api.Row{Line: 99}
		}
		for i := range diags[:cap(diags)] {
			diags[:cap(diags)][i] = api.Diag{Kind: 99}
		}
	}
}

func TestNothingIsChanged(t *testing.T) {
	some := func() []api.Row {
		return []api.Row{macro(4, "B", `a"`, "b"), text(2, "a"), text(3, "."), macro(9, ".", "a")}
	}
	rows, other := some(), some()
	other[3].Args[0] = "b"
	lines.Write(rows...)
	lines.Write(rows[:2]...)
	lines.Check(rows[0])
	lines.Same(rows, other)
	lines.Same(rows[:1], other[:2])
	if !equal(rows, some()) || other[3].Args[0] != "b" {
		t.Error(rows, other)
	}
}

// Long texts are read as short ones are.
func TestLongTexts(t *testing.T) {
	const n = 1 << 17
	for _, c := range []struct {
		s           string
		rows, diags int
	}{
		{strings.Repeat("\n", n), n, 0},
		{strings.Repeat("a\\\n", n), 1, 0},
		{strings.Repeat("\\\n", n), 1, 0},
		{strings.Repeat("\\\"\n", n), 0, 0},
		{strings.Repeat(".x \"\n", n), n, n},
		{strings.Repeat(`\`, n), 1, 0},
		{strings.Repeat(`\\"`, n), 1, 0},
		{strings.Repeat("\\\\\n", n), n, 0},
		{".x" + strings.Repeat(" \"", n), 1, 1},
		{".x" + strings.Repeat(" \\ ", n), 1, 1},
		{".x \"" + strings.Repeat("\"", n), 1, 1},
		{".x " + strings.Repeat("\\", n) + " a", 1, 0},
	} {
		rows, diags := lines.Read(c.s)
		if len(rows) != c.rows || len(diags) != c.diags {
			t.Errorf("%+q: %d, %d", c.s[:9], len(rows), len(diags))
		}
	}
	if rows, _ := lines.Read(strings.Repeat("a\\\n", n)); rows[0].Text != strings.Repeat("a", n) {
		t.Error(len(rows[0].Text))
	}
	if len(lines.Quoted(strings.Repeat(`"`, n))) != 2*n+2 {
		t.Error("Quoted")
	}
}
