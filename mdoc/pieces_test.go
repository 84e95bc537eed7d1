package mdoc_test

import (
	"slices"
	"strings"
	"testing"

	"flong/api"
	"flong/cells"
	"flong/mdoc"
)

const (
	bold  = api.Bold
	slant = api.Slant
)

// row is the runes of s, set plain.
func row(s string) []api.Glyph {
	return cells.Of(s, 0)
}

// seq is rows of glyphs, one behind the other.
func seq(l ...[]api.Glyph) []api.Glyph {
	return slices.Concat(l...)
}

// is is a piece that sticks to nothing.
func is(l ...[]api.Glyph) api.Piece {
	return api.Piece{Text: seq(l...)}
}

// left is a piece that sticks to what is ahead of it.
func left(s string) api.Piece {
	return api.Piece{Text: row(s), Left: true}
}

// right is a piece that sticks to what is behind it.
func right(s string) api.Piece {
	return api.Piece{Text: row(s), Right: true}
}

func pieces(l ...api.Piece) []api.Piece {
	return l
}

func same(a, b []api.Piece) bool {
	return slices.EqualFunc(a, b, func(x, y api.Piece) bool {
		return slices.Equal(x.Text, y.Text) && x.Left == y.Left && x.Right == y.Right
	})
}

// words is s, cut at its blanks; an underscore stands for a word of nothing.
func words(s string) []string {
	l := strings.Fields(s)
	for i, w := range l {
		if w == "_" {
			l[i] = ""
		}
	}
	return l
}

// callable is all words that are.
var callable = words("Ar Cm Em Fl Li Nm No Op Sy Xr")

var signs = words(". , : ; ) ] ? ! ( [")

func TestCallable(t *testing.T) {
	for _, s := range callable {
		if !mdoc.Callable(s) {
			t.Error(s)
		}
	}
	for a := range 0x80 {
		for b := range 0x80 {
			s := string([]byte{byte(a), byte(b)})
			if mdoc.Callable(s) != slices.Contains(callable, s) {
				t.Errorf("%q", s)
			}
		}
	}
	for _, s := range []string{"", "A", "O", "Opp", "Op ", " Op", "Op Fl", "op", "OP", "Op\n", "\x00", "\xff", "\uff2f\uff50", ".Op"} {
		if mdoc.Callable(s) {
			t.Errorf("%q", s)
		}
	}
	for _, s := range words("Dd Dt Os Sh Ss Pp Bl It El Bd Ed TH SH B I Ad Pa Va") {
		if mdoc.Callable(s) {
			t.Error(s)
		}
	}
}

func TestJoin(t *testing.T) {
	a, b, c, none := is(row("a")), is(cells.Of("b", bold)), is(row("c")), api.Piece{}
	both := api.Piece{Text: row("-"), Left: true, Right: true}
	for i, x := range []struct {
		l    []api.Piece
		want []api.Glyph
	}{
		{nil, nil},
		{pieces(none), nil},
		{pieces(a), row("a")},
		{pieces(a, b, c), seq(row("a "), cells.Of("b", bold), row(" c"))},
		{pieces(left(","), right("(")), row(", (")},
		{pieces(right("("), left(")")), row("()")},
		{pieces(a, left(","), c), row("a, c")},
		{pieces(a, right("("), c), row("a (c")},
		{pieces(a, left(","), left("."), right("("), right("["), c), row("a,. ([c")},
		{pieces(a, both, c), row("a-c")},
		{pieces(both, both), row("--")},
		{pieces(none, a, none, none, c, none), row("a c")},
		{pieces(right("("), none, c), row("(c")},
		{pieces(a, none, left(")")), row("a)")},
		{pieces(a, api.Piece{Left: true, Right: true}, c), row("a c")},
		{pieces(is(row(" ")), is(row("  ")), left(" ")), row("     ")},
		{pieces(is(cells.Of("a", 3)), is(cells.Of("b", 200))), seq(cells.Of("a", 3), row(" "), cells.Of("b", 200))},
		{pieces(is([]api.Glyph{{R: -1, S: 9}}), is([]api.Glyph{{R: 1 << 30}})), []api.Glyph{{R: -1, S: 9}, {R: 0x20}, {R: 1 << 30}}},
	} {
		if got := mdoc.Join(x.l...); !slices.Equal(got, x.want) {
			t.Errorf("%d: %v, want %v", i, got, x.want)
		}
	}
}

func TestPieces(t *testing.T) {
	fl := func(s string) api.Piece { return is(cells.Of("-"+s, bold)) }
	b := func(s string) api.Piece { return is(cells.Of(s, bold)) }
	i := func(s string) api.Piece { return is(cells.Of(s, slant)) }
	p := func(s string) api.Piece { return is(row(s)) }
	file, dots := i("file"), i("...")
	for _, x := range []struct {
		s    string
		want []api.Piece
	}{
		{"", nil},
		{"a b", pieces(p("a"), p("b"))},
		{"_ a _", pieces(p(""), p("a"), p(""))},
		{"No a b", pieces(p("a"), p("b"))},
		{"Li a b", pieces(p("a"), p("b"))},
		{"Em a b", pieces(i("a"), i("b"))},
		{"Ar a b", pieces(i("a"), i("b"))},
		{"Cm a b", pieces(b("a"), b("b"))},
		{"Sy a b", pieces(b("a"), b("b"))},
		{"Nm a b", pieces(b("a"), b("b"))},
		{"Fl a b", pieces(fl("a"), fl("b"))},
		{"Fl _ b", pieces(fl(""), fl("b"))},
		{"Op a b", pieces(right("["), p("a"), p("b"), left("]"))},
		{"Xr a", pieces(b("a"))},
		{"Xr a 1", pieces(b("a"), left("(1)"))},
		{"Xr a 1 b c", pieces(b("a"), left("(1)"), p("b"), p("c"))},
		{"Xr _ _", pieces(b(""), left("()"))},
		{"a Fl b c Ar d", pieces(p("a"), fl("b"), fl("c"), i("d"))},
		{"a Em b No c Em d", pieces(p("a"), i("b"), p("c"), i("d"))},
		// Signs, of whatever kind; they are no words of it.
		{". , : ; ) ] ? !", pieces(left("."), left(","), left(":"), left(";"), left(")"), left("]"), left("?"), left("!"))},
		{"( [", pieces(right("("), right("["))},
		{"Fl ( a ) , [ b ]", pieces(right("("), fl("a"), left(")"), left(","), right("["), fl("b"), left("]"))},
		{"Em a .", pieces(i("a"), left("."))},
		{"Xr ( a , 1 ) b", pieces(right("("), b("a"), left(","), left("(1)"), left(")"), p("b"))},
		{"Op ( a .", pieces(right("["), right("("), p("a"), left("."), left("]"))},
		{"a .. () ,, { } - ' .b", pieces(p("a"), p(".."), p("()"), p(",,"), p("{"), p("}"), p("-"), p("'"), p(".b"))},
		// Without other words than signs.
		{"Fl", pieces(fl(""))},
		{"Ar", pieces(file, dots)},
		{"Nm", pieces(b("N"))},
		{"Fl ( ,", pieces(fl(""), right("("), left(","))},
		{"Ar ( ,", pieces(file, dots, right("("), left(","))},
		{"Nm ( ,", pieces(b("N"), right("("), left(","))},
		{"a Fl Ar Nm . Fl b", pieces(p("a"), fl(""), file, dots, b("N"), left("."), fl("b"))},
		{"Cm Em Li No Sy Xr", nil},
		{"Cm . Em . Li . No . Sy . Xr .", slices.Repeat(pieces(left(".")), 6)},
		{"Op", pieces(right("["), left("]"))},
		{"Op .", pieces(right("["), left("."), left("]"))},
		// One is enough, though it has no byte.
		{"Fl _", pieces(fl(""))},
		{"Ar _ .", pieces(i(""), left("."))},
		{"Nm . _", pieces(left("."), b(""))},
		// Each Op goes on to the end of all words.
		{"Op Fl a Ar x ,", pieces(right("["), fl("a"), i("x"), left(","), left("]"))},
		{"a Op b Op Op Fl c No d", pieces(p("a"), right("["), p("b"), right("["), right("["), fl("c"), p("d"), left("]"), left("]"), left("]"))},
		{"Op Fl . No a", pieces(right("["), fl(""), left("."), p("a"), left("]"))},
		// What is callable, and what is not.
		{"Fl op Opp O", pieces(fl("op"), fl("Opp"), fl("O"))},
		{"Pp Sh", pieces(p("Pp"), p("Sh"))},
	} {
		l, name, diags := mdoc.Pieces("N", words(x.s)...)
		if !same(l, x.want) || name != "N" || len(diags) != 0 {
			t.Errorf("%q: %v %q %v, want %v", x.s, l, name, diags, x.want)
		}
	}
}

// Escapes in words: each word is set anew.
func TestPiecesSet(t *testing.T) {
	for _, x := range []struct {
		words []string
		want  []api.Piece
	}{
		{[]string{`a\fBb`, "c"}, pieces(is(row("a"), cells.Of("b", bold)), is(row("c")))},
		{[]string{"Em", `a\fBb\fPc`, "d"}, pieces(is(cells.Of("a", slant), cells.Of("b", bold), cells.Of("c", slant)), is(cells.Of("d", slant)))},
		{[]string{"Fl", `\fRa`}, pieces(is(cells.Of("-", bold), row("a")))},
		{[]string{"Fl", `\fPa`}, pieces(is(cells.Of("-a", bold)))},
		{[]string{"Ar", `\fPa`}, pieces(is(cells.Of("a", slant)))},
		{[]string{"Cm", `\fPa\fRb\fPc`}, pieces(is(cells.Of("a", bold), row("b"), cells.Of("c", bold)))},
		{[]string{"Xr", `a\fIb`, `\fB1`, `c\fId`}, pieces(is(cells.Of("a", bold), cells.Of("b", slant)), api.Piece{Text: seq(row("("), cells.Of("1", bold), row(")")), Left: true}, is(row("c"), cells.Of("d", slant)))},
		{[]string{"Fl", `\&`, `\-a`}, pieces(is(cells.Of("-", bold)), is(cells.Of("--a", bold)))},
		{[]string{"Fl", `\&.`}, pieces(is(cells.Of("-.", bold)))},
		{[]string{"Ar", `\&`}, pieces(is())},
		{[]string{"Em", " a  b\t"}, pieces(is(row(" "), cells.Of("a", slant), row("  "), cells.Of("b", slant), row(" ")))},
		{[]string{"Fl Ar", ". "}, pieces(is(row("Fl Ar")), is(row(". ")))},
		{[]string{"Li", "\u4e00\xff"}, pieces(is(row("\u4e00\ufffd")))},
	} {
		l, _, diags := mdoc.Pieces("N", x.words...)
		if !same(l, x.want) || len(diags) != 0 {
			t.Errorf("%q: %v %v, want %v", x.words, l, diags, x.want)
		}
	}
}

func TestPiecesName(t *testing.T) {
	b := func(s string) api.Piece { return is(cells.Of(s, bold)) }
	for _, x := range []struct {
		name, s string
		want    []api.Piece
		then    string
	}{
		{"", "", nil, ""},
		{"", "Nm", pieces(b("")), ""},
		{"", "Nm .", pieces(b(""), left(".")), ""},
		{"", "Nm _", pieces(b("")), ""},
		{"", "Nm a", pieces(b("a")), "a"},
		{"", "Nm a b", pieces(b("a"), b("b")), "a"},
		{"", "Nm ( _ a b", pieces(right("("), b(""), b("a"), b("b")), "a"},
		{"", "Nm _ Nm Nm . a Nm Nm b Nm", pieces(b(""), b(""), left("."), b("a"), b("a"), b("b"), b("a")), "a"},
		{"", "Nm a Nm .", pieces(b("a"), b("a"), left(".")), "a"},
		{"", "Fl a Em b c", pieces(b("-a"), is(cells.Of("b", slant)), is(cells.Of("c", slant))), ""},
		{"n", "Nm", pieces(b("n")), "n"},
		{"n", "Nm a", pieces(b("a")), "n"},
		{"n", "Nm a Nm", pieces(b("a"), b("n")), "n"},
		{"n", "Nm _", pieces(b("")), "n"},
		{"n", "a", pieces(is(row("a"))), "n"},
		// It is no sign, and no macro.
		{".", "Nm a Nm", pieces(b("a"), b(".")), "."},
		{"Fl", "Nm a Nm", pieces(b("a"), b("Fl")), "Fl"},
		{`a\fIb`, "Nm", pieces(is(cells.Of("a", bold), cells.Of("b", slant))), `a\fIb`},
		{" ", "Nm a Nm", pieces(b("a"), is(row(" "))), " "},
		{"", `Nm \& a Nm`, pieces(b(""), b("a"), b("")), `\&`},
	} {
		l, then, diags := mdoc.Pieces(x.name, words(x.s)...)
		if !same(l, x.want) || then != x.then || len(diags) != 0 {
			t.Errorf("%q, %q: %v %q %v, want %v %q", x.name, x.s, l, then, diags, x.want, x.then)
		}
	}
}

// What is wrong is told word by word; a name's is told each time it stands there.
func TestPiecesWrong(t *testing.T) {
	wrong := func(kind int, col int) api.Diag { return api.Diag{Kind: kind, Col: col} }
	for _, x := range []struct {
		name  string
		words []string
		text  string
		diags []api.Diag
	}{
		{"", []string{`a\q`, `\(zzb`, "\x01"}, "a b \ufffd", told(wrong(api.BadEscape, 2), wrong(api.BadName, 1), wrong(api.BadByte, 1))},
		{"", []string{"Fl", `a\q`, "Op", `\(zz`, "Xr", `\q`, `1\q`, `\`}, "-a [(1)]", told(wrong(api.BadEscape, 2), wrong(api.BadName, 1), wrong(api.BadEscape, 1), wrong(api.BadEscape, 2), wrong(api.BadEscape, 1))},
		{`n\q`, []string{"Nm", "a"}, "a", nil},
		{`n\q`, []string{"Nm", "Nm", ".", "Em", "a"}, "n n. a", told(wrong(api.BadEscape, 2), wrong(api.BadEscape, 2))},
		{"", []string{"Nm", `n\q`, "Em", `\(zz`, "Nm", ","}, "n n,", told(wrong(api.BadEscape, 2), wrong(api.BadName, 1), wrong(api.BadEscape, 2))},
		{"", []string{"Nm", `\q`, "a", "Nm"}, "a", told(wrong(api.BadEscape, 1), wrong(api.BadEscape, 1))},
	} {
		l, _, diags := mdoc.Pieces(x.name, x.words...)
		if got := cells.Text(mdoc.Join(l...)...); got != x.text || !slices.Equal(diags, x.diags) {
			t.Errorf("%q, %q: %q %v, want %q %v", x.name, x.words, got, diags, x.text, x.diags)
		}
	}
}

// The chapter's example, and others of what a line says.
func TestPiecesJoined(t *testing.T) {
	for s, want := range map[string]string{
		"Op Fl a Ar x ,":          "[-a x,]",
		"Op Fl a Op Ar b":         "[-a [b]]",
		"Ar":                      "file ...",
		"Ar ,":                    "file ...,",
		"Nm .":                    "N.",
		"Fl a b , c":              "-a -b, -c",
		"Xr ls 1 , Xr cat 1 .":    "ls(1), cat(1).",
		"Xr ls . 1":               "ls.(1)",
		"Xr ( ls 1 )":             "(ls(1))",
		"Em a ( b ) [ c ] ?":      "a (b) [c]?",
		"_ a _ _ b _":             "a b",
		"( _ a _ )":               "(a)",
		"Op":                      "[]",
		"Op Op Nm Op":             "[[N []]]",
		"Li a No b Cm c : Sy d ;": "a b c: d;",
	} {
		l, _, diags := mdoc.Pieces("N", words(s)...)
		if got := cells.Text(mdoc.Join(l...)...); got != want || len(diags) != 0 {
			t.Errorf("%q: %q %v, want %q", s, got, diags, want)
		}
	}
}
