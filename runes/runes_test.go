package runes_test

import (
	"bytes"
	"math"
	"slices"
	"testing"

	"flong/runes"
)

const odd = 0xfffd

// Runes that may not be, and those at the ends of what may be.
var (
	wrong = []rune{math.MinInt32, math.MinInt32 + 1, -0x10000, -0x80, -2, -1, 0xd800, 0xd801, 0xdbff, 0xdc00, 0xdffe, 0xdfff, 0x110000, 0x110001, 0x200000, 0x1000061, math.MaxInt32}
	ends  = []rune{0, 1, 0x7e, 0x7f, 0x80, 0x81, 0x7fe, 0x7ff, 0x800, 0x801, 0xd7fe, 0xd7ff, 0xe000, 0xe001, 0xfffc, 0xfffd, 0xfffe, 0xffff, 0x10000, 0x10001, 0x10fffe, 0x10ffff}
)

func TestValid(t *testing.T) {
	for _, r := range wrong {
		if runes.Valid(r) {
			t.Errorf("%x may be", r)
		}
	}
	for _, r := range ends {
		if !runes.Valid(r) {
			t.Errorf("%x may not be", r)
		}
	}
	for r := rune(-0x1000); r < 0x111000; r++ {
		if want := mayBe(r); runes.Valid(r) != want {
			t.Fatalf("Valid of %x is %v", r, !want)
		}
	}
}

func TestEncodeByHand(t *testing.T) {
	for _, c := range []struct {
		r    rune
		want []byte
	}{
		{0, []byte{0}},
		{0x0a, []byte{0x0a}},
		{0x61, []byte{0x61}},
		{0x7f, []byte{0x7f}},
		{0x80, []byte{0xc2, 0x80}},
		{0xe9, []byte{0xc3, 0xa9}},
		{0x7ff, []byte{0xdf, 0xbf}},
		{0x800, []byte{0xe0, 0xa0, 0x80}},
		{0x20ac, []byte{0xe2, 0x82, 0xac}},
		{0xd7ff, []byte{0xed, 0x9f, 0xbf}},
		{0xe000, []byte{0xee, 0x80, 0x80}},
		{0xfffd, []byte{0xef, 0xbf, 0xbd}},
		{0xffff, []byte{0xef, 0xbf, 0xbf}},
		{0x10000, []byte{0xf0, 0x90, 0x80, 0x80}},
		{0x1f600, []byte{0xf0, 0x9f, 0x98, 0x80}},
		{0x10ffff, []byte{0xf4, 0x8f, 0xbf, 0xbf}},
	} {
		if b := runes.Encode(c.r); !bytes.Equal(b, c.want) {
			t.Errorf("Encode of %x is % x, want % x", c.r, b, c.want)
		}
		if l := runes.Decode(c.want); !slices.Equal(l, []rune{c.r}) {
			t.Errorf("Decode of % x is %x, want %x", c.want, l, c.r)
		}
	}
	for _, r := range wrong {
		if b := runes.Encode(r); !bytes.Equal(b, []byte{0xef, 0xbf, 0xbd}) {
			t.Errorf("Encode of %x is % x", r, b)
		}
	}
}

func TestEncodeSeveral(t *testing.T) {
	got := runes.Encode('a', 0xe9, -1, 0x20ac, 0xd800, 0x1f600, 0, 'b')
	want := []byte("a\xc3\xa9\xef\xbf\xbd\xe2\x82\xac\xef\xbf\xbd\xf0\x9f\x98\x80\x00b")
	if !bytes.Equal(got, want) {
		t.Errorf("% x, want % x", got, want)
	}
	// A pair of halves, as other ways of writing have them, is no rune.
	if got := runes.Encode(0xd83d, 0xde00); !bytes.Equal(got, []byte("\xef\xbf\xbd\xef\xbf\xbd")) {
		t.Errorf("halves: % x", got)
	}
}

func TestEncodeEachRune(t *testing.T) {
	for r := rune(-0x1000); r < 0x111000; r++ {
		want := written(r)
		if b := runes.Encode(r); !bytes.Equal(b, want) {
			t.Fatalf("Encode of %x is % x, want % x", r, b, want)
		}
		back := r
		if !mayBe(r) {
			back = odd
		}
		if l := runes.Decode(want); !slices.Equal(l, []rune{back}) {
			t.Fatalf("Decode of % x is %x", want, l)
		}
	}
}

func TestDecodeWhatIsWrong(t *testing.T) {
	for _, c := range []struct {
		what string
		b    string
		want []rune
	}{
		{"of none", "\xff", []rune{odd}},
		{"of none, twice", "\xfe\xff", []rune{odd, odd}},
		{"inside", "a\xffb", []rune{'a', odd, 'b'}},
		{"a tail alone", "\x80", []rune{odd}},
		{"two tails", "a\x80\xbfb", []rune{'a', odd, odd, 'b'}},
		{"a tail too many", "\xe2\x82\xac\x80", []rune{0x20ac, odd}},
		{"no tail, of two", "\xc3", []rune{odd}},
		{"no tail, and on", "\xc3a", []rune{odd, 'a'}},
		{"no tail, of three", "\xe2", []rune{odd}},
		{"one tail, of three", "\xe2\x82", []rune{odd, odd}},
		{"one tail, and on", "\xe2\x82a", []rune{odd, odd, 'a'}},
		{"no tail, of four", "\xf0", []rune{odd}},
		{"one tail, of four", "\xf0\x9f", []rune{odd, odd}},
		{"two tails, of four", "\xf0\x9f\x98", []rune{odd, odd, odd}},
		{"two tails, and a rune", "\xf0\x9f\x98\xc3\xa9", []rune{odd, odd, odd, 0xe9}},
		{"a head behind a head", "\xc3\xc3\xa9", []rune{odd, 0xe9}},
		{"two for one", "\xc0\x80", []rune{odd, odd}},
		{"two for one, the last", "\xc1\xbf", []rune{odd, odd}},
		{"three for one", "\xe0\x80\x80", []rune{odd, odd, odd}},
		{"three for two, the last", "\xe0\x9f\xbf", []rune{odd, odd, odd}},
		{"four for three", "\xf0\x80\x80\x80", []rune{odd, odd, odd, odd}},
		{"four for three, the last", "\xf0\x8f\xbf\xbf", []rune{odd, odd, odd, odd}},
		{"the first half", "\xed\xa0\x80", []rune{odd, odd, odd}},
		{"the last half", "\xed\xbf\xbf", []rune{odd, odd, odd}},
		{"beyond all", "\xf4\x90\x80\x80", []rune{odd, odd, odd, odd}},
		{"far beyond", "\xf5\x80\x80\x80", []rune{odd, odd, odd, odd}},
		{"of five", "\xf8\x88\x80\x80\x80", []rune{odd, odd, odd, odd, odd}},
		{"of six", "\xfc\x84\x80\x80\x80\x80", []rune{odd, odd, odd, odd, odd, odd}},
		{"odd as it is written", "\xef\xbf\xbd", []rune{odd}},
		{"odd, cut", "\xef\xbf", []rune{odd, odd}},
		{"a mark at the begin", "\xef\xbb\xbfa", []rune{0xfeff, 'a'}},
	} {
		if l := runes.Decode([]byte(c.b)); !slices.Equal(l, c.want) {
			t.Errorf("%s: %x, want %x", c.what, l, c.want)
		}
	}
}

func TestNothing(t *testing.T) {
	if len(runes.Decode(nil)) != 0 || len(runes.Decode([]byte{})) != 0 {
		t.Error("Decode")
	}
	if len(runes.Encode()) != 0 || len(runes.Encode([]rune{}...)) != 0 {
		t.Error("Encode")
	}
	if !runes.Right(nil) || !runes.Right([]byte{}) {
		t.Error("Right")
	}
	if runes.Sum() != 0 || runes.Sum([]rune{}...) != 0 {
		t.Error("Sum")
	}
}

func TestRight(t *testing.T) {
	for _, s := range []string{"a", "a\xc3\xa9", "\x00\x7f", "\xef\xbf\xbd", "\xf4\x8f\xbf\xbf", "\xed\x9f\xbf\xee\x80\x80"} {
		if !runes.Right([]byte(s)) {
			t.Errorf("% x is not right", s)
		}
	}
	for _, s := range []string{"\xff", "a\xff", "\xffa", "\x80", "\xc3", "\xc0\x80", "\xe0\x80\x80", "\xed\xa0\x80", "\xf4\x90\x80\x80", "\xef\xbf", "\xef\xbf\xbd\xbd", "\xe2\x82\xac\x80"} {
		if runes.Right([]byte(s)) {
			t.Errorf("% x is right", s)
		}
	}
}

func TestSafe(t *testing.T) {
	for r := rune(-0x1000); r < 0x111000; r++ {
		want := r
		if !mayBe(r) || holds(controls, r) {
			want = odd
		}
		if got := runes.Safe(r); got != want {
			t.Fatalf("Safe of %x is %x, want %x", r, got, want)
		}
	}
	for _, r := range slices.Concat(wrong, []rune{0, '\t', '\n', '\r', 0x1b, 0x1f, 0x7f, 0x80, 0x9f, 0x2028, 0x2029}) {
		if got := runes.Safe(r); got != odd {
			t.Errorf("Safe of %x is %x", r, got)
		}
	}
	for _, r := range []rune{' ', 'a', '~', 0xa0, 0x200b, 0x2027, 0x202a, 0x301, 0x4e00, odd, 0xffff, 0x10ffff} {
		if got := runes.Safe(r); got != r {
			t.Errorf("Safe of %x is %x", r, got)
		}
	}
}

func TestNothingIsShared(t *testing.T) {
	b := []byte("a\xc3\xa9\xff")
	was := bytes.Clone(b)
	one, two := runes.Decode(b), runes.Decode(b)
	want := slices.Clone(one)
	one[0] = 'x'
	_ = append(one[:1], 'y', 'z')
	if !slices.Equal(two, want) || !bytes.Equal(b, was) || !slices.Equal(runes.Decode(b), want) {
		t.Error("Decode")
	}
	b[0] = 'q'
	if !slices.Equal(two, want) {
		t.Error("Decode keeps what it was given")
	}
	l := []rune{'a', -1, 0x4e00}
	before := slices.Clone(l)
	first, second := runes.Encode(l...), runes.Encode(l...)
	wanted := bytes.Clone(first)
	first[0] = 'x'
	_ = append(first[:1], 'y', 'z')
	if !bytes.Equal(second, wanted) || !slices.Equal(l, before) {
		t.Error("Encode")
	}
	runes.Right(b)
	runes.Sum(l...)
	if !slices.Equal(l, before) {
		t.Error("Sum changes what it was given")
	}
}

func TestExample(t *testing.T) {
	if l := runes.Decode([]byte{0x61, 0xff, 0xc3, 0xa9}); !slices.Equal(l, []rune{'a', 0xfffd, 0xe9}) {
		t.Errorf("%x", l)
	}
	if runes.Width(0x4e00) != 2 || runes.Width(0x301) != 0 {
		t.Error("Width")
	}
}
