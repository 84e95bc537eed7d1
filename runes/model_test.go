package runes_test

import (
	"bytes"
	"math/rand"
	"slices"
	"testing"

	"flong/runes"
)

func mayBe(r rune) bool {
	return 0 <= r && r <= 0x10ffff && !(0xd800 <= r && r <= 0xdfff)
}

// written is the bytes of r, bit by bit, as the document has them.
func written(r rune) []byte {
	if !mayBe(r) {
		r = odd
	}
	tail := func(shift int) byte { return byte(0x80 + r>>shift%64) }
	switch {
	case r < 0x80:
		return []byte{byte(r)}
	case r < 0x800:
		return []byte{byte(0xc0 + r>>6), tail(0)}
	case r < 0x10000:
		return []byte{byte(0xe0 + r>>12), tail(6), tail(0)}
	}
	return []byte{byte(0xf0 + r>>18), tail(12), tail(6), tail(0)}
}

// heads are the bytes of each rune that may be, by themselves.
func heads() map[string]rune {
	m := map[string]rune{}
	for r := rune(0); r <= 0x10ffff; r++ {
		if mayBe(r) {
			m[string(written(r))] = r
		}
	}
	return m
}

// read is Decode by looking up what stands ahead, of each length.
func read(known map[string]rune, b []byte) (l []rune, right bool) {
	right = true
	for len(b) > 0 {
		r, n := rune(odd), 0
		for size := 1; size <= min(4, len(b)); size++ {
			if x, ok := known[string(b[:size])]; ok {
				r, n = x, size
			}
		}
		right = right && n > 0
		l = append(l, r)
		b = b[max(n, 1):]
	}
	return l, right
}

func agree(t *testing.T, known map[string]rune, b []byte) {
	t.Helper()
	want, right := read(known, b)
	got := runes.Decode(b)
	if !slices.Equal(got, want) {
		t.Fatalf("Decode of % x is %x, want %x", b, got, want)
	}
	if runes.Right(b) != right {
		t.Fatalf("Right of % x is %v", b, !right)
	}
	if bytes.Equal(runes.Encode(got...), b) != right {
		t.Fatalf("Encode of Decode of % x is % x", b, runes.Encode(got...))
	}
}

// corners are bytes at the ends of what each place of a rune may be.
var corners = []byte{0, 0x61, 0x7f, 0x80, 0x8f, 0x90, 0x9f, 0xa0, 0xbd, 0xbf, 0xc0, 0xc1, 0xc2, 0xdf, 0xe0, 0xe1, 0xec, 0xed, 0xee, 0xef, 0xf0, 0xf1, 0xf3, 0xf4, 0xf5, 0xf8, 0xff}

func TestAllShortBytes(t *testing.T) {
	known := heads()
	for a := range 256 {
		agree(t, known, []byte{byte(a)})
		for b := range 256 {
			agree(t, known, []byte{byte(a), byte(b)})
		}
	}
	for _, a := range corners {
		for _, b := range corners {
			for _, c := range corners {
				agree(t, known, []byte{a, b, c})
				for _, d := range corners {
					agree(t, known, []byte{a, b, c, d})
				}
			}
		}
	}
}

func TestAnyBytes(t *testing.T) {
	known := heads()
	r := rand.New(rand.NewSource(3))
	for range 20000 {
		var b []byte
		for range r.Intn(12) {
			switch r.Intn(3) {
			case 0:
				b = append(b, byte(r.Intn(256)))
			case 1:
				b = append(b, corners[r.Intn(len(corners))])
			default:
				b = append(b, written(anyRune(r))...)
			}
		}
		agree(t, known, b)
	}
}

func anyRune(r *rand.Rand) rune {
	switch r.Intn(6) {
	case 0:
		return wrong[r.Intn(len(wrong))]
	case 1:
		return ends[r.Intn(len(ends))]
	case 2:
		return rune(r.Intn(0x400))
	case 3:
		return rune(r.Intn(0x110000))
	case 4:
		return rune(r.Uint32())
	}
	return rune(r.Intn(0x10000))
}

// What is written is read.
func TestWrittenIsRead(t *testing.T) {
	r := rand.New(rand.NewSource(4))
	for range 20000 {
		var l, want []rune
		for range r.Intn(10) {
			x := anyRune(r)
			l = append(l, x)
			if !mayBe(x) {
				x = odd
			}
			want = append(want, x)
		}
		b := runes.Encode(l...)
		if got := runes.Decode(b); !slices.Equal(got, want) {
			t.Fatalf("%x is read as %x", l, got)
		}
		if !runes.Right(b) {
			t.Fatalf("%x is not written right", l)
		}
	}
}
