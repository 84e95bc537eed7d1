package styles_test

import (
	"math"
	"slices"
	"testing"

	"flong/api"
	"flong/styles"
)

const (
	plain = 0
	bold  = api.Bold
	slant = api.Slant
	both  = api.Bold | api.Slant
)

// row is the runes of s, each so set.
func row(set uint8, s string) []api.Glyph {
	var out []api.Glyph
	for _, r := range s {
		out = append(out, api.Glyph{R: r, S: set})
	}
	return out
}

func rows(l ...[]api.Glyph) []api.Glyph {
	return slices.Concat(l...)
}

// gap is what stands between.
func gap() []api.Glyph {
	return row(plain, " ")
}

func face(now, was uint8) api.Face {
	return api.Face{Now: now, Was: was}
}

func char(r rune) api.Token {
	return api.Token{Kind: api.Char, R: r}
}

func font(n rune) api.Token {
	return api.Token{Kind: api.Font, R: n}
}

func space() api.Token {
	return api.Token{Kind: api.Space}
}

// at is what is wrong, at a column.
func at(kind, col int) api.Diag {
	return api.Diag{Kind: kind, Col: col}
}

func equal(t *testing.T, what string, got, want []api.Glyph) {
	t.Helper()
	if !slices.Equal(got, want) {
		t.Errorf("%s: %v, want %v", what, got, want)
	}
}

func told(t *testing.T, what string, got, want []api.Diag) {
	t.Helper()
	if !slices.Equal(got, want) {
		t.Errorf("%s: %v, want %v", what, got, want)
	}
}

func turned(t *testing.T, what string, got, want api.Face) {
	t.Helper()
	if got != want {
		t.Errorf("%s: %v, want %v", what, got, want)
	}
}

func TestTurn(t *testing.T) {
	for _, f := range []api.Face{{}, face(1, 0), face(2, 1), face(3, 3), face(0, 2), face(4, 5), face(255, 128)} {
		for n := range uint8(4) {
			turned(t, "to a font", styles.Turn(f, rune(n)), face(n, f.Now))
		}
		turned(t, "back", styles.Turn(f, 4), face(f.Was, f.Now))
		for _, n := range []rune{-1, -2, -4, 5, 6, 7, 8, 255, 256, 257, 260, 0x10000, 0x10001, 0x10004, 'B', 'P', math.MinInt32, math.MinInt32 + 1, math.MaxInt32} {
			turned(t, "to no font", styles.Turn(f, n), f)
		}
	}
}

// Back and back again is where it was, whatever the face.
func TestTurnBack(t *testing.T) {
	for now := range 256 {
		for was := range 256 {
			f := face(uint8(now), uint8(was))
			turned(t, "back, and back", styles.Turn(styles.Turn(f, 4), 4), f)
			for n := range rune(4) {
				turned(t, "there, and back", styles.Turn(styles.Turn(f, n), 4), face(f.Now, uint8(n)))
			}
		}
	}
}

func TestSet(t *testing.T) {
	for _, c := range []struct {
		what string
		f    api.Face
		l    []api.Token
		want []api.Glyph
		then api.Face
	}{
		{"nothing", face(2, 1), nil, nil, face(2, 1)},
		{"none", face(2, 1), []api.Token{}, nil, face(2, 1)},
		{"runes", face(1, 2), []api.Token{char('a'), char(0x4e00), char(0x301)}, row(bold, "a\u4e00\u0301"), face(1, 2)},
		{"a face that has no font", face(200, 7), []api.Token{char('a'), font(4), char('b')}, rows(row(200, "a"), row(7, "b")), face(7, 200)},
		{"blanks", face(3, 0), []api.Token{space(), char('a'), space(), space()}, rows(gap(), row(both, "a"), gap(), gap()), face(3, 0)},
		{"blanks of other runes", face(3, 0), []api.Token{{Kind: api.Space, R: 'x'}, {Kind: api.Space, R: -1}}, rows(gap(), gap()), face(3, 0)},
		{"fonts", face(0, 0), []api.Token{font(1), char('a'), font(2), char('b'), font(4), char('c'), font(4), char('d'), font(0), char('e'), font(3), char('f')},
			rows(row(bold, "a"), row(slant, "b"), row(bold, "c"), row(slant, "d"), row(plain, "e"), row(both, "f")), face(3, 0)},
		{"fonts alone", face(3, 1), []api.Token{font(2), font(0)}, nil, face(0, 2)},
		{"the same font", face(1, 2), []api.Token{font(1)}, nil, face(1, 1)},
		{"what it was at first", face(1, 2), []api.Token{font(4), char('a')}, row(slant, "a"), face(2, 1)},
		{"no fonts", face(1, 2), []api.Token{font(5), font(-1), font(257), char('a')}, row(bold, "a"), face(1, 2)},
		{"other kinds", face(1, 0), []api.Token{{Kind: 9, R: 'x'}, {R: 'x'}, {Kind: 4, R: 2}, {Kind: -1, R: 2}, {Kind: 257, R: 'x'}, {Kind: math.MinInt, R: 'x'}, {Kind: math.MaxInt, R: 'x'}, char('y')}, row(bold, "y"), face(1, 0)},
	} {
		got, then := styles.Set(c.f, c.l...)
		equal(t, c.what, got, c.want)
		turned(t, c.what, then, c.then)
	}
}

// A rune is set as it came, be it none that may be; only what is told as a blank is set plain.
func TestSetAnyRune(t *testing.T) {
	for _, r := range []rune{0, 7, '\t', '\n', ' ', 0xa0, 0xd800, 0xfffd, 0x10ffff, 0x110000, -1, math.MinInt32, math.MaxInt32} {
		got, then := styles.Set(face(2, 1), char(r))
		equal(t, "a rune", got, []api.Glyph{{R: r, S: slant}})
		turned(t, "a rune", then, face(2, 1))
	}
}

func TestLine(t *testing.T) {
	for _, c := range []struct {
		f     api.Face
		s     string
		want  []api.Glyph
		then  api.Face
		diags []api.Diag
	}{
		{face(1, 2), "", nil, face(1, 2), nil},
		{face(0, 0), "a b", row(plain, "a b"), face(0, 0), nil},
		{face(3, 1), "a\tb  ", rows(row(both, "a"), gap(), row(both, "b"), gap(), gap()), face(3, 1), nil},
		{face(0, 0), `a\fBb c\fId\fPe\fRf`, rows(row(plain, "a"), row(bold, "b"), gap(), row(bold, "c"), row(slant, "d"), row(bold, "e"), row(plain, "f")), face(0, 1), nil},
		{face(1, 2), `\fPa\fPb`, rows(row(slant, "a"), row(bold, "b")), face(1, 2), nil},
		{face(0, 0), `\f(BIa\f[R]b\f4`, rows(row(both, "a"), row(plain, "b")), face(3, 0), nil},
		{face(1, 1), `\(em\-\ \[u00E9]\e`, row(bold, "\u2014-\u00a0\u00e9\\"), face(1, 1), nil},
		{face(1, 1), `\[u0020]`, row(bold, " "), face(1, 1), nil},
		{face(1, 0), `\&\%`, nil, face(1, 0), nil},
		{face(1, 0), `a\fR\"b\fI`, row(bold, "a"), face(0, 1), nil},
		{face(2, 0), "\u4e00\u0301\xff", row(slant, "\u4e00\u0301\ufffd"), face(2, 0), nil},
		// What is wrong is told as it was read: the face stays, and the line goes on.
		{face(2, 0), "a\x01\\f9b\\q\\(zz\\fBc\\", rows(row(slant, "a\ufffdb"), row(bold, "c")), face(1, 2), []api.Diag{at(api.BadByte, 2), at(api.BadName, 3), at(api.BadEscape, 7), at(api.BadName, 9), at(api.BadEscape, 17)}},
		{face(2, 1), `\f[B`, nil, face(2, 1), []api.Diag{at(api.BadEscape, 1)}},
	} {
		got, then, diags := styles.Line(c.f, c.s)
		equal(t, c.s, got, c.want)
		turned(t, c.s, then, c.then)
		told(t, c.s, diags, c.diags)
	}
}

type words struct {
	args  []string
	want  []api.Glyph
	diags []api.Diag
}

func TestWords(t *testing.T) {
	for _, c := range []words{
		{nil, nil, nil},
		{[]string{}, nil, nil},
		{[]string{""}, nil, nil},
		{[]string{"", "", ""}, nil, nil},
		{[]string{"a"}, row(bold, "a"), nil},
		{[]string{"ab", "c", "d"}, rows(row(bold, "ab"), gap(), row(bold, "c"), gap(), row(bold, "d")), nil},
		// Each begins with the same face, whatever the one ahead left.
		{[]string{`a\fIb`, "c", `\fRd\fPe`, "f"}, rows(row(bold, "a"), row(slant, "b"), gap(), row(bold, "c"), gap(), row(plain, "d"), row(bold, "e"), gap(), row(bold, "f")), nil},
		{[]string{`\fI`, "a"}, row(bold, "a"), nil},
		// Back, at an argument's begin, is how it began.
		{[]string{`\fPa`, `\fPb`}, rows(row(bold, "a"), gap(), row(bold, "b")), nil},
		// Nothing stands beside one without glyphs.
		{[]string{"", "a"}, row(bold, "a"), nil},
		{[]string{"a", ""}, row(bold, "a"), nil},
		{[]string{"a", "", "b"}, rows(row(bold, "a"), gap(), row(bold, "b")), nil},
		{[]string{"", "a", "", "", "b", "c", ""}, rows(row(bold, "a"), gap(), row(bold, "b"), gap(), row(bold, "c")), nil},
		{[]string{`\&`, "a", `\fR\%`, "b", `\"x`}, rows(row(bold, "a"), gap(), row(bold, "b")), nil},
		// A blank is a glyph.
		{[]string{" "}, gap(), nil},
		{[]string{"a", " ", "b"}, rows(row(bold, "a"), gap(), gap(), gap(), row(bold, "b")), nil},
		{[]string{" ", "a "}, rows(gap(), gap(), row(bold, "a"), gap()), nil},
		{[]string{"a", `\ `, "b"}, rows(row(bold, "a"), gap(), row(bold, "\u00a0"), gap(), row(bold, "b")), nil},
		// What is wrong is told of each, in order, at its own column.
		{[]string{"a", `b\(zz`, "c"}, rows(row(bold, "a"), gap(), row(bold, "b"), gap(), row(bold, "c")), []api.Diag{at(api.BadName, 2)}},
		{[]string{`ab\q\(zz`, `\`, "c", "d\x01"}, rows(row(bold, "ab"), gap(), row(bold, "c"), gap(), row(bold, "d\ufffd")), []api.Diag{at(api.BadEscape, 3), at(api.BadName, 5), at(api.BadEscape, 1), at(api.BadByte, 2)}},
		{[]string{`\q`}, nil, []api.Diag{at(api.BadEscape, 1)}},
		{[]string{`a\f(`, "b"}, rows(row(bold, "a"), gap(), row(bold, "b")), []api.Diag{at(api.BadEscape, 2)}},
	} {
		got, diags := styles.Words(bold, c.args...)
		equal(t, "Words", got, c.want)
		told(t, "Words", diags, c.diags)
	}
}

func TestWordsSet(t *testing.T) {
	for set := range 256 {
		n := uint8(set)
		got, diags := styles.Words(n, "a", `b\fPc`, `\fId\fPe`)
		equal(t, "Words", got, rows(row(n, "a"), gap(), row(n, "bc"), gap(), row(slant, "d"), row(n, "e")))
		told(t, "Words", diags, nil)
	}
}

func TestTurns(t *testing.T) {
	for _, c := range []words{
		{nil, nil, nil},
		{[]string{}, nil, nil},
		{[]string{"", ""}, nil, nil},
		{[]string{"a"}, row(bold, "a"), nil},
		{[]string{"a", "b"}, rows(row(bold, "a"), row(slant, "b")), nil},
		{[]string{"ab", "c", "d", "e", "f"}, rows(row(bold, "ab"), row(slant, "c"), row(bold, "d"), row(slant, "e"), row(bold, "f")), nil},
		// Each begins with its own face, whatever the one ahead left.
		{[]string{`a\fRb`, "c", `\fRd\fPe`, `\fPf`}, rows(row(bold, "a"), row(plain, "b"), row(slant, "c"), row(plain, "d"), row(bold, "e"), row(slant, "f")), nil},
		// One without glyphs has its turn, too.
		{[]string{"", "a"}, row(slant, "a"), nil},
		{[]string{"a", "", "b"}, row(bold, "ab"), nil},
		{[]string{`\&`, "a", `\fR`, "b"}, row(slant, "ab"), nil},
		{[]string{"a ", " b", " "}, rows(row(bold, "a"), gap(), gap(), row(slant, "b"), gap()), nil},
		{[]string{`a\(zz`, `\`, "b\x01", `cd\q`}, rows(row(bold, "a"), row(bold, "b\ufffd"), row(slant, "cd")), []api.Diag{at(api.BadName, 2), at(api.BadEscape, 1), at(api.BadByte, 2), at(api.BadEscape, 3)}},
	} {
		got, diags := styles.Turns(bold, slant, c.args...)
		equal(t, "Turns", got, c.want)
		told(t, "Turns", diags, c.diags)
	}
	for set := range 256 {
		a, b := uint8(set), uint8(255-set)
		got, _ := styles.Turns(a, b, "x", `y\fPy`, `x\fBz\fPx`)
		equal(t, "Turns", got, rows(row(a, "x"), row(b, "yy"), row(a, "x"), row(bold, "z"), row(a, "x")))
	}
}

func TestJoin(t *testing.T) {
	a, b := row(bold, "ab"), row(slant, "c")
	for _, c := range []struct {
		what       string
		a, b, want []api.Glyph
	}{
		{"nothing", nil, nil, nil},
		{"none", []api.Glyph{}, []api.Glyph{}, nil},
		{"the first", a, nil, a},
		{"the first alone", a, []api.Glyph{}, a},
		{"the other", nil, b, b},
		{"the other alone", []api.Glyph{}, b, b},
		{"both", a, b, rows(a, gap(), b)},
		{"the other way", b, a, rows(b, gap(), a)},
		{"blanks", row(bold, " "), row(slant, " "), rows(row(bold, " "), gap(), row(slant, " "))},
		{"a blank at an end", row(bold, "a "), row(bold, " b"), rows(row(bold, "a "), gap(), row(bold, " b"))},
		{"of no width", row(plain, "\u0301"), row(plain, "\u200b"), row(plain, "\u0301 \u200b")},
		{"what may not be", []api.Glyph{{R: -1, S: 255}}, []api.Glyph{{R: 0x110000, S: 4}}, []api.Glyph{{R: -1, S: 255}, {R: ' '}, {R: 0x110000, S: 4}}},
	} {
		equal(t, c.what, styles.Join(c.a, c.b), c.want)
	}
}

func TestSqueeze(t *testing.T) {
	for _, c := range []struct {
		what    string
		l, want []api.Glyph
	}{
		{"nothing", nil, nil},
		{"none", []api.Glyph{}, nil},
		{"a blank", gap(), nil},
		{"blanks", row(bold, "   "), nil},
		{"no blanks", rows(row(bold, "a"), row(slant, "b")), rows(row(bold, "a"), row(slant, "b"))},
		{"at the begin", row(bold, "  a"), row(bold, "a")},
		{"one at the begin", row(bold, " a"), row(bold, "a")},
		{"at the end", row(bold, "a  "), row(bold, "a")},
		{"one at the end", row(bold, "a "), row(bold, "a")},
		{"one inside", row(plain, "a b"), row(plain, "a b")},
		{"one inside, set", row(both, "a b"), rows(row(both, "a"), gap(), row(both, "b"))},
		{"one inside, oddly set", row(128, "a b"), rows(row(128, "a"), gap(), row(128, "b"))},
		{"several inside", row(both, "a   b"), rows(row(both, "a"), gap(), row(both, "b"))},
		{"several, set otherwise", rows(row(bold, "a "), row(slant, " "), gap(), row(bold, "b")), rows(row(bold, "a"), gap(), row(bold, "b"))},
		{"everywhere", row(slant, "  a  b c   d "), rows(row(slant, "a"), gap(), row(slant, "b"), gap(), row(slant, "c"), gap(), row(slant, "d"))},
		{"hard ones stay", row(bold, "\u00a0 \u00a0\u00a0a \u00a0"), rows(row(bold, "\u00a0"), gap(), row(bold, "\u00a0\u00a0a"), gap(), row(bold, "\u00a0"))},
		{"other ones stay", row(plain, "\t\t a\n\nb\u2003\u2003c\x00"), row(plain, "\t\t a\n\nb\u2003\u2003c\x00")},
		{"of no width between", row(bold, " \u200b \u0301 "), rows(row(bold, "\u200b"), gap(), row(bold, "\u0301"))},
		{"what may not be", []api.Glyph{{R: -1, S: 255}, {R: ' ', S: 9}, {R: 0x110020, S: 4}}, []api.Glyph{{R: -1, S: 255}, {R: ' '}, {R: 0x110020, S: 4}}},
	} {
		got := styles.Squeeze(c.l...)
		equal(t, c.what, got, c.want)
		equal(t, c.what+", again", styles.Squeeze(got...), c.want)
	}
}

func TestExample(t *testing.T) {
	got, diags := styles.Turns(bold, 0, "a", "b")
	equal(t, "Turns", got, rows(row(bold, "a"), row(plain, "b")))
	told(t, "Turns", diags, nil)
}
