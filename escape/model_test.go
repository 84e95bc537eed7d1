package escape_test

import (
	"math/rand"
	"regexp"
	"slices"
	"strings"
	"testing"

	"flong/api"
	"flong/escape"
	"flong/runes"
)

// What the chapter says of each kind of thing, as a pattern of what stands at a text's begin; the first that is there counts.
var (
	plain   = regexp.MustCompile(`(?s)^[^\\]`)
	says    = regexp.MustCompile("(?s)^\\\\([\\\\e\\-'`. ~0])")
	nothing = regexp.MustCompile(`^\\[&%/,:]`)
	comment = regexp.MustCompile(`(?s)^\\".*`)
	name    = regexp.MustCompile(`(?s)^\\(?:\((..)|\[([^\]]*)\])`)
	face    = regexp.MustCompile(`(?s)^\\f(?:\((..)|\[([^\]]*)\]|([^(\[]))`)
	endless = regexp.MustCompile(`(?s)^\\[(\[f].*`)
	other   = regexp.MustCompile(`(?s)^\\.?`)
)

// model reads s pattern by pattern.
func model(s string) ([]api.Token, []api.Diag) {
	var tokens []api.Token
	var diags []api.Diag
	text := string([]rune(s))
	for rest := text; rest != ""; {
		col := len([]rune(text)) - len([]rune(rest)) + 1
		wrong := func(kind int) {
			diags = append(diags, api.Diag{Kind: kind, Col: col})
		}
		found := ""
		take := func(p *regexp.Regexp) bool {
			m := p.FindStringSubmatch(rest)
			if m == nil {
				return false
			}
			rest, found = rest[len(m[0]):], strings.Join(m[1:], "")
			if len(m) == 1 {
				found = m[0]
			}
			return true
		}
		switch {
		case take(plain):
			tokens = append(tokens, alone([]rune(found)[0]))
			if tokens[len(tokens)-1].R == api.Odd && found != "\ufffd" {
				wrong(api.BadByte)
			}
		case take(says):
			r := map[string]rune{"\\": '\\', "e": '\\', "-": '-', "'": 0xb4, "`": '`', ".": '.', " ": 0xa0, "~": 0xa0, "0": 0xa0}[found]
			tokens = append(tokens, api.Token{Kind: api.Char, R: r})
		case take(nothing), take(comment):
		case take(name):
			if r, ok := escape.Name(found); ok {
				tokens = append(tokens, api.Token{Kind: api.Char, R: r})
			} else {
				wrong(api.BadName)
			}
		case take(face):
			if n, ok := escape.Font(found); ok {
				tokens = append(tokens, api.Token{Kind: api.Font, R: n})
			} else {
				wrong(api.BadName)
			}
		case take(endless), take(other):
			wrong(api.BadEscape)
		}
	}
	return tokens, diags
}

// alone is the token of a rune that no escape has.
func alone(r rune) api.Token {
	switch {
	case r == ' ', r == '\t':
		return api.Token{Kind: api.Space}
	case runes.Control(r):
		return api.Token{Kind: api.Char, R: api.Odd}
	}
	return api.Token{Kind: api.Char, R: r}
}

// anyText is made of parts of escapes, for the most part.
func anyText(r *rand.Rand) string {
	parts := []string{
		`\`, `\`, `\`, `\(`, `\[`, `\f`, `\f(`, `\f[`, `]`, `(`, `[`, `f`, `"`, `\"`,
		`e`, `em`, `(em`, `[em]`, `<-`, `u:`, `B`, `BI`, `P`, `1`, `u0041`, `[u00E9]`, `zz`,
		`-`, `'`, "`", `.`, ` `, `~`, `0`, `&`, `%`, `/`, `,`, `:`, "\t", "\n", "\x01", "\u2028", "\x85", "\u0085",
		"a", "\u4e00", "\u0301", "\u00a0", "\ufffd", "\xff", "\xe2\x82",
	}
	var s strings.Builder
	for range r.Intn(9) {
		s.WriteString(parts[r.Intn(len(parts))])
	}
	return s.String()
}

func TestScanAnyText(t *testing.T) {
	r := rand.New(rand.NewSource(11))
	for range 200000 {
		s := anyText(r)
		tokens, diags := escape.Scan(s)
		wantTokens, wantDiags := model(s)
		if !slices.Equal(tokens, wantTokens) || !slices.Equal(diags, wantDiags) {
			t.Fatalf("Scan of %+q: %v %v, want %v %v", s, tokens, diags, wantTokens, wantDiags)
		}
		if !escape.Same(tokens, wantTokens) {
			t.Fatalf("Same of %v", tokens)
		}
	}
}

// Whatever is read: no control comes out, places rise, and a blank has no rune.
func TestScanTellsWhatMayBe(t *testing.T) {
	r := rand.New(rand.NewSource(12))
	for range 100000 {
		b := make([]byte, r.Intn(12))
		for i := range b {
			b[i] = byte(r.Intn(256))
			if r.Intn(3) == 0 {
				b[i] = "\\\\([f]"[r.Intn(6)]
			}
		}
		s := string(b)
		tokens, diags := escape.Scan(s)
		for _, x := range tokens {
			if !may(x) {
				t.Fatalf("Scan of %+q: %v", s, tokens)
			}
		}
		for i, d := range diags {
			if d.Line != 0 || d.Col < 1 || d.Col > len(runes.Decode(b)) || i > 0 && d.Col <= diags[i-1].Col || d.Kind < api.BadEscape || d.Kind > api.BadByte {
				t.Fatalf("Scan of %+q: %v", s, diags)
			}
		}
	}
}

func may(x api.Token) bool {
	switch x.Kind {
	case api.Char:
		return runes.Valid(x.R) && !runes.Control(x.R)
	case api.Space:
		return x.R == 0
	case api.Font:
		return 0 <= x.R && x.R <= 4
	}
	return false
}

// What was quoted is read as it was: rune by rune, and nothing is wrong but its controls.
func TestQuoteIsRead(t *testing.T) {
	r := rand.New(rand.NewSource(13))
	for range 100000 {
		s := anyText(r)
		var want []api.Token
		var wrong []api.Diag
		col := 1
		for _, c := range s {
			x := alone(c)
			want = append(want, x)
			if x.Kind == api.Char && x.R != c {
				wrong = append(wrong, api.Diag{Kind: api.BadByte, Col: col})
			}
			if col++; c == '\\' {
				col++
			}
		}
		tokens, diags := escape.Scan(escape.Quote(s))
		if !slices.Equal(tokens, want) || !slices.Equal(diags, wrong) {
			t.Fatalf("Scan of %+q, quoted: %v %v, want %v %v", s, tokens, diags, want, wrong)
		}
	}
}

// What comes out is written over, and on behind: what comes out of another call stays.
func TestNothingIsShared(t *testing.T) {
	const s = "a \\(em\\fB\x01\\q\\(zz b"
	wantTokens, wantDiags := model(s)
	for range 3 {
		tokens, diags := escape.Scan(s)
		if !slices.Equal(tokens, wantTokens) || !slices.Equal(diags, wantDiags) {
			t.Fatal(tokens, diags)
		}
		for i := range tokens[:cap(tokens)] {
			tokens[:cap(tokens)][i] = api.Token{Kind: 9, R: -1}
		}
		for i := range diags[:cap(diags)] {
			diags[:cap(diags)][i] = api.Diag{Kind: 99, Line: 9, Col: 9}
		}
		if r, ok := escape.Name("em"); r != 0x2014 || !ok {
			t.Fatal(r, ok)
		}
	}
}

func TestSameChangesNothing(t *testing.T) {
	a, b := chars('a', 'b', 'c'), chars('a', 'b', 'd')
	escape.Same(a, b)
	escape.Same(a[:2], b[:2])
	if !slices.Equal(a, chars('a', 'b', 'c')) || !slices.Equal(b, chars('a', 'b', 'd')) {
		t.Error(a, b)
	}
}

// Long texts are read as short ones are.
func TestLongTexts(t *testing.T) {
	const n = 1 << 17
	for _, c := range []struct {
		part          string
		tokens, diags int
	}{
		{"a", n, 0}, {`\(em`, n, 0}, {`\[u0041]`, n, 0}, {`\fB`, n, 0}, {`\[zz]`, 0, n}, {`\q`, 0, n}, {"\x01", n, n}, {`\&`, 0, 0},
	} {
		tokens, diags := escape.Scan(strings.Repeat(c.part, n))
		if len(tokens) != c.tokens || len(diags) != c.diags {
			t.Errorf("%q: %d, %d", c.part, len(tokens), len(diags))
		}
	}
	for _, s := range []string{`\[` + strings.Repeat(`a\[`, n), `\f[` + strings.Repeat(`a`, n), `\"` + strings.Repeat(`\q`, n)} {
		if tokens, diags := escape.Scan(s); len(tokens) != 0 || len(diags) > 1 {
			t.Errorf("%q: %d, %d", s[:9], len(tokens), len(diags))
		}
	}
	if len(escape.Quote(strings.Repeat(`\`, n))) != 2*n {
		t.Error("Quote")
	}
}
