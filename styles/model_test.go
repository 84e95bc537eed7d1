package styles_test

import (
	"math/rand"
	"slices"
	"strings"
	"testing"

	"flong/api"
	"flong/escape"
	"flong/styles"
)

// model is the glyphs of tokens, and the face then, told from the last token back: every glyph asks for the face ahead of it by itself.
func model(f api.Face, l []api.Token) ([]api.Glyph, api.Face) {
	var out []api.Glyph
	for i, x := range l {
		if x.Kind == api.Char {
			out = append(out, api.Glyph{R: x.R, S: faceAhead(f, l[:i]).Now})
		}
		if x.Kind == api.Space {
			out = append(out, api.Glyph{R: 0x20, S: 0})
		}
	}
	return out, faceAhead(f, l)
}

// faceAhead is the face behind all of l: how the last font that counts leaves it.
func faceAhead(f api.Face, l []api.Token) api.Face {
	if len(l) == 0 {
		return f
	}
	n := len(l) - 1
	was := faceAhead(f, l[:n])
	switch {
	case l[n].Kind != 3 || l[n].R < 0 || l[n].R > 4:
		return was
	case l[n].R == 4:
		return face(was.Was, was.Now)
	}
	return face(uint8(l[n].R), was.Now)
}

func modelLine(set uint8, s string) ([]api.Glyph, []api.Diag) {
	tokens, diags := escape.Scan(s)
	l, _ := model(face(set, set), tokens)
	return l, diags
}

// modelArgs puts together what each argument of any set has, with something between those that have any.
func modelArgs(sets []uint8, between []api.Glyph, args []string) ([]api.Glyph, []api.Diag) {
	var parts [][]api.Glyph
	var diags []api.Diag
	for i, s := range args {
		l, wrong := modelLine(sets[i%len(sets)], s)
		diags = append(diags, wrong...)
		if len(l) > 0 {
			parts = append(parts, l)
		}
	}
	var out []api.Glyph
	for i, l := range parts {
		out = slices.Concat(out, l)
		if i < len(parts)-1 {
			out = slices.Concat(out, between)
		}
	}
	return out, diags
}

// squeezed asks of each blank what stands around it.
func squeezed(l []api.Glyph) []api.Glyph {
	other := func(g api.Glyph) bool {
		return g.R != 0x20
	}
	var out []api.Glyph
	for i, g := range l {
		switch {
		case other(g):
			out = append(out, g)
		case i > 0 && other(l[i-1]) && slices.ContainsFunc(l[i:], other):
			out = append(out, api.Glyph{R: 0x20, S: 0})
		}
	}
	return out
}

func anySet(r *rand.Rand) uint8 {
	return []uint8{0, 1, 2, 3, 0, 1, 2, 3, 4, 128, 255}[r.Intn(11)]
}

func anyFace(r *rand.Rand) api.Face {
	return face(anySet(r), anySet(r))
}

func anyTokens(r *rand.Rand) []api.Token {
	few := []rune{'a', ' ', api.Hard, 0x301, 0, 1, 2, 3, 4, 4, 4, 5, -1, 257, 260, 0x110000}
	kinds := []int{0, 1, 1, 1, 2, 3, 3, 3, 4, -1, 257, 1 << 40}
	var l []api.Token
	for range r.Intn(10) {
		l = append(l, api.Token{Kind: kinds[r.Intn(len(kinds))], R: few[r.Intn(len(few))]})
	}
	return l
}

func anyText(r *rand.Rand) string {
	parts := []string{`\fB`, `\fI`, `\fR`, `\fP`, `\fP`, `\f(BI`, `\f9`, `\f[`, `\(em`, `\(zz`, `\[u0020]`, `\&`, `\ `, `\q`, `\"`, " ", "\t", "\x01", "a", "bc", "\u4e00", "\u0301", "\xff"}
	var s strings.Builder
	for range r.Intn(6) {
		s.WriteString(parts[r.Intn(len(parts))])
	}
	return s.String()
}

func anyArgs(r *rand.Rand) []string {
	var l []string
	for range r.Intn(6) {
		l = append(l, anyText(r))
	}
	return l
}

func anyRow(r *rand.Rand) []api.Glyph {
	few := []rune{'a', 'b', ' ', ' ', ' ', ' ', api.Hard, '\t', 0x301, 0x4e00, -1}
	var l []api.Glyph
	for range r.Intn(9) {
		l = append(l, api.Glyph{R: few[r.Intn(len(few))], S: anySet(r)})
	}
	return l
}

func TestSetAnyTokens(t *testing.T) {
	r := rand.New(rand.NewSource(21))
	for range 100000 {
		f, l := anyFace(r), anyTokens(r)
		got, then := styles.Set(f, l...)
		want, wantThen := model(f, l)
		if !slices.Equal(got, want) || then != wantThen {
			t.Fatalf("Set of %v %v: %v %v, want %v %v", f, l, got, then, want, wantThen)
		}
	}
}

// Tokens that are set part by part, each from the face of the one ahead on, are set as all together are.
func TestSetGoesOn(t *testing.T) {
	r := rand.New(rand.NewSource(22))
	for range 20000 {
		f, l := anyFace(r), anyTokens(r)
		n := r.Intn(len(l) + 1)
		a, half := styles.Set(f, l[:n]...)
		b, then := styles.Set(half, l[n:]...)
		got, want := styles.Set(f, l...)
		if !slices.Equal(got, rows(a, b)) || then != want {
			t.Fatalf("Set of %v %v, parted at %d: %v %v, %v", f, l, n, a, b, then)
		}
	}
}

func TestLineOfAnyText(t *testing.T) {
	r := rand.New(rand.NewSource(23))
	for range 100000 {
		f, s := anyFace(r), anyText(r)
		got, then, diags := styles.Line(f, s)
		tokens, wantDiags := escape.Scan(s)
		want, wantThen := model(f, tokens)
		if !slices.Equal(got, want) || then != wantThen || !slices.Equal(diags, wantDiags) {
			t.Fatalf("Line of %v %+q: %v %v %v, want %v %v %v", f, s, got, then, diags, want, wantThen, wantDiags)
		}
	}
}

func TestAnyArgs(t *testing.T) {
	r := rand.New(rand.NewSource(24))
	for range 50000 {
		a, b, args := anySet(r), anySet(r), anyArgs(r)
		got, diags := styles.Words(a, args...)
		want, wantDiags := modelArgs([]uint8{a}, gap(), args)
		if !slices.Equal(got, want) || !slices.Equal(diags, wantDiags) {
			t.Fatalf("Words of %d %+q: %v %v, want %v %v", a, args, got, diags, want, wantDiags)
		}
		got, diags = styles.Turns(a, b, args...)
		want, wantDiags = modelArgs([]uint8{a, b}, nil, args)
		if !slices.Equal(got, want) || !slices.Equal(diags, wantDiags) {
			t.Fatalf("Turns of %d, %d %+q: %v %v, want %v %v", a, b, args, got, diags, want, wantDiags)
		}
	}
}

// Words of several are those of each, joined.
func TestWordsAreJoined(t *testing.T) {
	r := rand.New(rand.NewSource(25))
	for range 20000 {
		set, args := anySet(r), anyArgs(r)
		var want []api.Glyph
		for _, s := range args {
			l, _ := styles.Words(set, s)
			want = styles.Join(want, l)
		}
		if got, _ := styles.Words(set, args...); !slices.Equal(got, want) {
			t.Fatalf("Words of %d %+q: %v, want %v", set, args, got, want)
		}
	}
}

func TestSqueezeAnyRow(t *testing.T) {
	r := rand.New(rand.NewSource(26))
	for range 100000 {
		l := anyRow(r)
		got := styles.Squeeze(l...)
		if want := squeezed(l); !slices.Equal(got, want) {
			t.Fatalf("Squeeze of %v: %v, want %v", l, got, want)
		}
		if again := styles.Squeeze(got...); !slices.Equal(again, got) {
			t.Fatalf("Squeeze of %v, squeezed: %v", l, again)
		}
	}
}

// answers is every row of glyphs that comes out of any call with these.
func answers(tokens []api.Token, l []api.Glyph, args []string) [][]api.Glyph {
	var out [][]api.Glyph
	keep := func(g []api.Glyph) {
		out = append(out, g)
	}
	for range 2 {
		g, _ := styles.Set(face(1, 2), tokens...)
		keep(g)
		g, _, _ = styles.Line(face(1, 2), strings.Join(args, ""))
		keep(g)
		g, _ = styles.Words(1, args...)
		keep(g)
		g, _ = styles.Turns(1, 2, args...)
		keep(g)
	}
	keep(styles.Join(l, nil))
	keep(styles.Join(nil, l))
	keep(styles.Join(l, l))
	keep(styles.Join(l, l[:0]))
	keep(styles.Join(l[:0], l))
	keep(styles.Join(l[:1], l[1:]))
	keep(styles.Squeeze(l...))
	keep(styles.Squeeze(l...))
	return out
}

// What comes out is written over, and on behind: nothing else may change.
func TestNothingIsShared(t *testing.T) {
	tokens := []api.Token{char('a'), font(2), space(), char('b'), font(4), char('c')}
	args := []string{"a b", `c\(em`, "", `\fId\fP`}
	for _, given := range [][]api.Glyph{row(bold, "abc"), row(bold, " a  b "), rows(row(slant, "a"), gap(), row(bold, "b"))} {
		// There is room behind what is handed in, and it is somebody's.
		memory := append(slices.Clone(given), row(plain, "xyz")...)
		was := slices.Clone(memory)
		mine, texts := slices.Clone(tokens), slices.Clone(args)
		out := answers(mine, memory[:len(given)], texts)
		want := answers(slices.Clone(tokens), slices.Clone(given), slices.Clone(args))
		for i := range out {
			spoil(out[i])
			for k := i + 1; k < len(out); k++ {
				equal(t, "another row", out[k], want[k])
			}
			equal(t, "what was handed in", memory, was)
		}
		if !slices.Equal(mine, tokens) || !slices.Equal(texts, args) {
			t.Error(mine, texts)
		}
	}
}

func spoil(l []api.Glyph) {
	l = l[:cap(l)]
	for i := range l {
		l[i] = api.Glyph{R: '!', S: 255}
	}
}

func TestNothingIsKept(t *testing.T) {
	tokens := []api.Token{char('a'), font(2), char('b')}
	l, args := row(bold, "a  b"), []string{"a", "b c"}
	want := answers(slices.Clone(tokens), slices.Clone(l), slices.Clone(args))
	out := answers(tokens, l, args)
	spoil(l)
	clear(tokens)
	clear(args)
	for i := range out {
		equal(t, "a row", out[i], want[i])
	}
}

// What is told is written over, too.
func TestNoDiagIsShared(t *testing.T) {
	ask := func() [][]api.Diag {
		_, _, a := styles.Line(api.Face{}, `a\(zz\q`)
		_, b := styles.Words(0, `\(zz`, `\q`)
		_, c := styles.Turns(0, 1, `\(zz`, `\q`)
		return [][]api.Diag{a, b, c}
	}
	want, out := ask(), slices.Concat(ask(), ask())
	for i, l := range out {
		l = l[:cap(l)]
		for k := range l {
			l[k] = at(99, 9)
		}
		for k := i + 1; k < len(out); k++ {
			told(t, "another list", out[k], want[k%3])
		}
	}
}

// Long texts, and many arguments, are set as short ones are.
func TestLongTexts(t *testing.T) {
	const n = 1 << 17
	if l, f := styles.Set(api.Face{}, slices.Repeat([]api.Token{font(1), char('a'), font(4), space()}, n)...); len(l) != 2*n || f != face(0, 1) {
		t.Error("Set", len(l), f)
	}
	if l, f, diags := styles.Line(api.Face{}, strings.Repeat(`\fBa\fP \q`, n)); len(l) != 2*n || f != face(0, 1) || len(diags) != n {
		t.Error("Line", len(l), f, len(diags))
	}
	many := slices.Repeat([]string{"a", "", `b\q`}, n)
	if l, diags := styles.Words(1, many...); len(l) != 4*n-1 || len(diags) != n {
		t.Error("Words", len(l), len(diags))
	}
	if l, diags := styles.Turns(1, 2, many...); len(l) != 2*n || len(diags) != n {
		t.Error("Turns", len(l), len(diags))
	}
	long := slices.Repeat(row(bold, "  a"), n)
	if l := styles.Squeeze(long...); len(l) != 2*n-1 {
		t.Error("Squeeze", len(l))
	}
	if l := styles.Squeeze(slices.Repeat(gap(), n)...); len(l) != 0 {
		t.Error("Squeeze of blanks", len(l))
	}
	if l := styles.Join(long, long); len(l) != 6*n+1 {
		t.Error("Join", len(l))
	}
}
