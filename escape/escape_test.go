package escape_test

import (
	"slices"
	"strings"
	"testing"

	"flong/api"
	"flong/escape"
	"flong/runes"
)

// chars is tokens of these runes.
func chars(l ...rune) []api.Token {
	var out []api.Token
	for _, r := range l {
		out = append(out, api.Token{Kind: api.Char, R: r})
	}
	return out
}

func font(n rune) api.Token {
	return api.Token{Kind: api.Font, R: n}
}

func space() api.Token {
	return api.Token{Kind: api.Space}
}

// one is a single thing that is wrong.
func one(kind, col int) []api.Diag {
	return []api.Diag{{Kind: kind, Col: col}}
}

type scan struct {
	s      string
	tokens []api.Token
	diags  []api.Diag
}

func try(t *testing.T, list []scan) {
	t.Helper()
	for _, c := range list {
		tokens, diags := escape.Scan(c.s)
		if !slices.Equal(tokens, c.tokens) || !slices.Equal(diags, c.diags) {
			t.Errorf("Scan of %+q: %v %v, want %v %v", c.s, tokens, diags, c.tokens, c.diags)
		}
	}
}

func TestScanText(t *testing.T) {
	try(t, []scan{
		{"", nil, nil},
		{"ab", chars('a', 'b'), nil},
		{"a b\tc  ", slices.Concat(chars('a'), []api.Token{space()}, chars('b'), []api.Token{space()}, chars('c'), []api.Token{space(), space()}), nil},
		{" ", []api.Token{space()}, nil},
		{"\u4e00\u0301\U0001f600\u00a0", chars(0x4e00, 0x301, 0x1f600, 0xa0), nil},
		{"()[]\"'`f-", chars('(', ')', '[', ']', '"', '\'', '`', 'f', '-'), nil},
		// A byte of no rune is read as one that may be: nothing is wrong with that.
		{"a\xff\xc3b", chars('a', api.Odd, api.Odd, 'b'), nil},
		{"\ufffd", chars(api.Odd), nil},
	})
}

func TestScanControls(t *testing.T) {
	for _, r := range []rune{0, 1, 8, 0xa, 0xb, 0xc, 0xd, 0x1b, 0x1f, 0x7f, 0x80, 0x85, 0x9f, 0x2028, 0x2029} {
		try(t, []scan{
			{string(r), chars(api.Odd), one(api.BadByte, 1)},
			{"\u4e00 " + string(r) + "b", slices.Concat(chars(0x4e00), []api.Token{space()}, chars(api.Odd, 'b')), one(api.BadByte, 3)},
		})
	}
	try(t, []scan{
		{"\x1f\x7f\xc2\x80~", chars(api.Odd, api.Odd, api.Odd, '~'), []api.Diag{{Kind: api.BadByte, Col: 1}, {Kind: api.BadByte, Col: 2}, {Kind: api.BadByte, Col: 3}}},
		{"\u2027\u202a!\u00a0", chars(0x2027, 0x202a, '!', 0xa0), nil},
	})
}

func TestScanShortEscapes(t *testing.T) {
	try(t, []scan{
		{`\\`, chars(0x5c), nil},
		{`\e`, chars(0x5c), nil},
		{`\-`, chars(0x2d), nil},
		{`\'`, chars(0xb4), nil},
		{"\\`", chars(0x60), nil},
		{`\.`, chars(0x2e), nil},
		{`\ `, chars(0xa0), nil},
		{`\~`, chars(0xa0), nil},
		{`\0`, chars(0xa0), nil},
		{`a\&b`, chars('a', 'b'), nil},
		{`a\%b`, chars('a', 'b'), nil},
		{`a\/b`, chars('a', 'b'), nil},
		{`a\,b`, chars('a', 'b'), nil},
		{`a\:b`, chars('a', 'b'), nil},
		{`\\e`, chars(0x5c, 'e'), nil},
		{`\\\\`, chars(0x5c, 0x5c), nil},
		{`\e\e`, chars(0x5c, 0x5c), nil},
		{`\0 \~`, slices.Concat(chars(0xa0), []api.Token{space()}, chars(0xa0)), nil},
	})
}

// Nothing is told of what is behind a comment's begin, neither what it says nor what is wrong.
func TestScanComment(t *testing.T) {
	try(t, []scan{
		{`\"`, nil, nil},
		{`a\"b c`, chars('a'), nil},
		{"a\\\"\x01\\q\\(zz\\[", chars('a'), nil},
		{"\x01\\\"\x01", chars(api.Odd), one(api.BadByte, 1)},
		{`\\"a`, chars(0x5c, '"', 'a'), nil},
		{`\\\"a`, chars(0x5c), nil},
		{`a"b`, chars('a', '"', 'b'), nil},
	})
}

func TestScanNames(t *testing.T) {
	try(t, []scan{
		{`a\(emb`, chars('a', 0x2014, 'b'), nil},
		{`a\[em]b`, chars('a', 0x2014, 'b'), nil},
		{`\(<-\(u:\[ss]\(Eu`, chars(0x2190, 0xfc, 0xdf, 0x20ac), nil},
		{`\[u00E9]\[u10FFFF]\[u000041]]`, chars(0xe9, 0x10ffff, 'A', ']'), nil},
		{`\(rsn\(rs(em`, chars(0x5c, 'n', 0x5c, '(', 'e', 'm'), nil},
		{`\(aq\(dqa`, chars('\'', '"', 'a'), nil},
		{`\[u00A0]\[u0020]`, chars(0xa0, 0x20), nil},
	})
}

func TestScanBadNames(t *testing.T) {
	try(t, []scan{
		{`x\(zzy`, chars('x', 'y'), one(api.BadName, 2)},
		{`x\[zz]y`, chars('x', 'y'), one(api.BadName, 2)},
		{`\[]y`, chars('y'), one(api.BadName, 1)},
		{`\[ em]y`, chars('y'), one(api.BadName, 1)},
		{`\[e]y`, chars('y'), one(api.BadName, 1)},
		{`\[[em]y`, chars('y'), one(api.BadName, 1)},
		{`\[]]y`, chars(']', 'y'), one(api.BadName, 1)},
		{`\[u0007]y`, chars('y'), one(api.BadName, 1)},
		{`\[uD800]y`, chars('y'), one(api.BadName, 1)},
		{`\[u2028]y`, chars('y'), one(api.BadName, 1)},
		// What stands in a name is read as nothing else, be it an escape, a comment or a control.
		{`\(\(emy`, chars('e', 'm', 'y'), one(api.BadName, 1)},
		{`\(\"y`, chars('y'), one(api.BadName, 1)},
		{"\\(\x01\ny", chars('y'), one(api.BadName, 1)},
		{"\\( \ty", chars('y'), one(api.BadName, 1)},
		{`\[\"]y`, chars('y'), one(api.BadName, 1)},
		{`\[\[em]]y`, chars(']', 'y'), one(api.BadName, 1)},
		{"\\[a\x01\\q]y", chars('y'), one(api.BadName, 1)},
		{"\\(\u4e00\u0301y", chars('y'), one(api.BadName, 1)},
		{"\\(\xff\xffy", chars('y'), one(api.BadName, 1)},
	})
}

// What does not end takes all that is behind it along.
func TestScanNamesWithoutEnd(t *testing.T) {
	try(t, []scan{
		{`x\(`, chars('x'), one(api.BadEscape, 2)},
		{`x\(a`, chars('x'), one(api.BadEscape, 2)},
		{`x\(\`, chars('x'), one(api.BadEscape, 2)},
		{"x\\(\x01", chars('x'), one(api.BadEscape, 2)},
		{`x\[`, chars('x'), one(api.BadEscape, 2)},
		{`x\[em`, chars('x'), one(api.BadEscape, 2)},
		{"x\\[em a\x01\\q\\(em \\[", chars('x'), one(api.BadEscape, 2)},
		{`]x\[(`, chars(']', 'x'), one(api.BadEscape, 3)},
		{`x\f`, chars('x'), one(api.BadEscape, 2)},
		{`x\f(`, chars('x'), one(api.BadEscape, 2)},
		{`x\f(B`, chars('x'), one(api.BadEscape, 2)},
		{`x\f[`, chars('x'), one(api.BadEscape, 2)},
		{"x\\f[BI \x01\\q", chars('x'), one(api.BadEscape, 2)},
	})
}

func TestScanFonts(t *testing.T) {
	try(t, []scan{
		{`\fR\fB\fI\fP`, []api.Token{font(0), font(1), font(2), font(4)}, nil},
		{`\f1\f2\f3\f4`, []api.Token{font(0), font(1), font(2), font(3)}, nil},
		{`\f(BI\f[BI]`, []api.Token{font(3), font(3)}, nil},
		{`\f[R]\f[B]\f[I]\f[P]\f[1]\f[4]`, []api.Token{font(0), font(1), font(2), font(4), font(0), font(3)}, nil},
		{`\fBI`, slices.Concat([]api.Token{font(1)}, chars('I')), nil},
		{`\fB \fP`, []api.Token{font(1), space(), font(4)}, nil},
		{`fB\fBf`, slices.Concat(chars('f', 'B'), []api.Token{font(1)}, chars('f')), nil},
	})
}

func TestScanBadFonts(t *testing.T) {
	try(t, []scan{
		{`\f9y`, chars('y'), one(api.BadName, 1)},
		{`\f0y`, chars('y'), one(api.BadName, 1)},
		{`\f5y`, chars('y'), one(api.BadName, 1)},
		{`\fby`, chars('y'), one(api.BadName, 1)},
		{`\f(IBy`, chars('y'), one(api.BadName, 1)},
		{`\f(B y`, chars('y'), one(api.BadName, 1)},
		{`\f[]y`, chars('y'), one(api.BadName, 1)},
		{`\f[B ]y`, chars('y'), one(api.BadName, 1)},
		{`\f]y`, chars('y'), one(api.BadName, 1)},
		{`\f)y`, chars('y'), one(api.BadName, 1)},
		{`\f y`, chars('y'), one(api.BadName, 1)},
		{"\\f\x01y", chars('y'), one(api.BadName, 1)},
		{`\f\y`, chars('y'), one(api.BadName, 1)},
		{`\f\"y`, chars('"', 'y'), one(api.BadName, 1)},
		{`\f(\"y`, chars('y'), one(api.BadName, 1)},
		{"\\f\xffy", chars('y'), one(api.BadName, 1)},
		{`\f9\f(B`, nil, []api.Diag{{Kind: api.BadName, Col: 1}, {Kind: api.BadEscape, Col: 4}}},
	})
}

func TestScanBadEscapes(t *testing.T) {
	try(t, []scan{
		{`\`, nil, one(api.BadEscape, 1)},
		{`a\`, chars('a'), one(api.BadEscape, 2)},
		{`\\\`, chars(0x5c), one(api.BadEscape, 3)},
		{"\\\ty", chars('y'), one(api.BadEscape, 1)},
		{"\\\ny", chars('y'), one(api.BadEscape, 1)},
		{"\\\x01y", chars('y'), one(api.BadEscape, 1)},
		{"\\\xffy", chars('y'), one(api.BadEscape, 1)},
		{"\\\u00a0y", chars('y'), one(api.BadEscape, 1)},
		{"\\\u4e00y", chars('y'), one(api.BadEscape, 1)},
		{`\]y`, chars('y'), one(api.BadEscape, 1)},
		{`\)y`, chars('y'), one(api.BadEscape, 1)},
		{`\Fy\Ey`, chars('y', 'y'), []api.Diag{{Kind: api.BadEscape, Col: 1}, {Kind: api.BadEscape, Col: 4}}},
		{`\qz\`, chars('z'), []api.Diag{{Kind: api.BadEscape, Col: 1}, {Kind: api.BadEscape, Col: 4}}},
	})
}

// A place is a rune's, whatever bytes it has, and what is wrong is told in order.
func TestScanPlaces(t *testing.T) {
	try(t, []scan{
		{"\u4e00\U0001f600\\q\xff\x01\\(zz \\f9\\[", slices.Concat(chars(0x4e00, 0x1f600, api.Odd, api.Odd), []api.Token{space()}), []api.Diag{
			{Kind: api.BadEscape, Col: 3}, {Kind: api.BadByte, Col: 6}, {Kind: api.BadName, Col: 7}, {Kind: api.BadName, Col: 12}, {Kind: api.BadEscape, Col: 15},
		}},
	})
}

// Behind a backslash every rune is one of those that the document names, or wrong.
func TestScanEveryEscape(t *testing.T) {
	says := func(r rune) rune {
		switch r {
		case '\\', 'e':
			return 0x5c
		case '-', '`', '.':
			return r
		case '\'':
			return 0xb4
		case ' ', '~', '0':
			return 0xa0
		}
		return 0
	}
	for r := rune(0); r <= 0x10ffff; r++ {
		if !runes.Valid(r) || strings.ContainsRune("\"([f", r) {
			continue
		}
		want := chars('a', 'b')
		if c := says(r); c != 0 {
			want = chars('a', c, 'b')
		}
		var wrong []api.Diag
		if says(r) == 0 && !strings.ContainsRune("&%/,:", r) {
			wrong = one(api.BadEscape, 2)
		}
		tokens, diags := escape.Scan("a\\" + string(r) + "b")
		if !slices.Equal(tokens, want) || !slices.Equal(diags, wrong) {
			t.Fatalf("%x: %v %v", r, tokens, diags)
		}
	}
}

// No rune alone comes out as a control.
func TestScanEveryRune(t *testing.T) {
	for r := rune(0); r <= 0x10ffff; r++ {
		want, wrong := chars(r), []api.Diag(nil)
		switch {
		case !runes.Valid(r), r == '\\':
			continue
		case r == ' ', r == '\t':
			want = []api.Token{space()}
		case runes.Control(r):
			want, wrong = chars(api.Odd), one(api.BadByte, 1)
		}
		tokens, diags := escape.Scan(string(r))
		if !slices.Equal(tokens, want) || !slices.Equal(diags, wrong) {
			t.Fatalf("%x: %v %v", r, tokens, diags)
		}
	}
}

func TestQuote(t *testing.T) {
	for _, c := range [][2]string{
		{"", ""},
		{"ab", "ab"},
		{`\`, `\e`},
		{`\\`, `\e\e`},
		{`a\b`, `a\eb`},
		{`\e`, `\ee`},
		{`\(em\"`, `\e(em\e"`},
		{"\xff\\\xc3", "\xff\\e\xc3"},
		{"\x01\t\n", "\x01\t\n"},
	} {
		if got := escape.Quote(c[0]); got != c[1] {
			t.Errorf("Quote of %+q is %+q, want %+q", c[0], got, c[1])
		}
	}
}

func TestSame(t *testing.T) {
	l := slices.Concat(chars('a'), []api.Token{space(), font(1)})
	for _, c := range []struct {
		what string
		a, b []api.Token
		want bool
	}{
		{"nothing", nil, nil, true},
		{"nothing, and none", nil, []api.Token{}, true},
		{"nothing, and some", nil, l, false},
		{"alike", l, slices.Clone(l), true},
		{"a front", l, l[:2], false},
		{"another rune", chars('a'), chars('b'), false},
		{"another kind", []api.Token{{Kind: api.Char, R: 1}}, []api.Token{{Kind: api.Font, R: 1}}, false},
		{"no kind that there is", []api.Token{{Kind: 9, R: -1}}, []api.Token{{Kind: 9, R: -1}}, true},
		{"blanks of other runes", []api.Token{{Kind: api.Space, R: ' '}}, []api.Token{space()}, false},
		{"another order", chars('a', 'b'), chars('b', 'a'), false},
		{"the last one", chars('a', 'b'), chars('a', 'c'), false},
	} {
		if escape.Same(c.a, c.b) != c.want || escape.Same(c.b, c.a) != c.want {
			t.Errorf("%s: not %v", c.what, c.want)
		}
	}
}

func TestExample(t *testing.T) {
	try(t, []scan{{`a\(emb`, chars('a', 0x2014, 'b'), nil}})
}
