package runes_test

import (
	"math/rand"
	"strconv"
	"strings"
	"testing"

	"flong/runes"
)

// As the document writes them.
const (
	controls = "0-1f, 7f-9f, 2028-2028, 2029-2029"
	ofNone   = "300-36f, 483-489, 591-5bd, 610-61a, 64b-65f, 1ab0-1aff, 1dc0-1dff, 200b-200f, 20d0-20ff, fe00-fe0f, fe20-fe2f, e0100-e01ef"
	ofTwo    = "1100-115f, 2329-232a, 2e80-303e, 3041-33ff, 3400-4dbf, 4e00-a4cf, a960-a97f, ac00-d7a3, f900-faff, fe30-fe6f, ff00-ff60, ffe0-ffe6, 1f300-1f64f, 1f900-1f9ff, 20000-2fffd, 30000-3fffd"
)

var parsed = map[string][][2]rune{}

// holds tells whether r is of these ranges.
func holds(ranges string, r rune) bool {
	l, ok := parsed[ranges]
	if !ok {
		l = parse(ranges)
		parsed[ranges] = l
	}
	for _, x := range l {
		if x[0] <= r && r <= x[1] {
			return true
		}
	}
	return false
}

func parse(ranges string) [][2]rune {
	var l [][2]rune
	for x := range strings.SplitSeq(ranges, ", ") {
		from, to, _ := strings.Cut(x, "-")
		l = append(l, [2]rune{hex(from), hex(to)})
	}
	return l
}

func hex(s string) rune {
	n, err := strconv.ParseInt(s, 16, 32)
	if err != nil {
		panic(err)
	}
	return rune(n)
}

func cells(r rune) int {
	switch {
	case !mayBe(r), holds(controls, r), holds(ofNone, r):
		return 0
	case holds(ofTwo, r):
		return 2
	}
	return 1
}

func TestControl(t *testing.T) {
	for r := rune(-0x1000); r < 0x111000; r++ {
		if want := holds(controls, r); runes.Control(r) != want {
			t.Fatalf("Control of %x is %v", r, !want)
		}
	}
	for _, r := range wrong {
		if runes.Control(r) {
			t.Errorf("%x is a Control", r)
		}
	}
	for _, r := range []rune{0, '\t', '\n', 0x1b, 0x1f, 0x7f, 0x80, 0x9f, 0x2028, 0x2029} {
		if !runes.Control(r) {
			t.Errorf("%x is no Control", r)
		}
	}
	for _, r := range []rune{' ', '~', 0xa0, 0xad, 0x200e, 0x2027, 0x202a, 0x2060, 0xfeff} {
		if runes.Control(r) {
			t.Errorf("%x is a Control", r)
		}
	}
}

func TestWidth(t *testing.T) {
	for r := rune(-0x1000); r < 0x111000; r++ {
		if got, want := runes.Width(r), cells(r); got != want {
			t.Fatalf("Width of %x is %d, want %d", r, got, want)
		}
	}
	for _, r := range wrong {
		if got := runes.Width(r); got != 0 {
			t.Errorf("Width of %x is %d", r, got)
		}
	}
}

func TestWidthAtEnds(t *testing.T) {
	for _, c := range []struct {
		r    rune
		want int
	}{
		{0, 0}, {'\t', 0}, {0x1f, 0}, {' ', 1}, {'~', 1}, {0x7f, 0}, {0x9f, 0}, {0xa0, 1}, {0xad, 1},
		{0x2ff, 1}, {0x300, 0}, {0x36f, 0}, {0x370, 1},
		{0x10ff, 1}, {0x1100, 2}, {0x115f, 2}, {0x1160, 1},
		{0x200a, 1}, {0x200b, 0}, {0x200f, 0}, {0x2010, 1}, {0x2014, 1}, {0x2027, 1}, {0x2028, 0}, {0x2029, 0}, {0x202a, 1},
		{0x2e7f, 1}, {0x2e80, 2}, {0x303e, 2}, {0x303f, 1}, {0x3040, 1}, {0x3041, 2},
		{0x33ff, 2}, {0x3400, 2}, {0x4dbf, 2}, {0x4dc0, 1}, {0x4dff, 1}, {0x4e00, 2}, {0xa4cf, 2}, {0xa4d0, 1},
		{0xd7a3, 2}, {0xd7a4, 1}, {0xd800, 0}, {0xdfff, 0}, {0xe000, 1},
		{0xfe0f, 0}, {0xfe10, 1}, {0xfe1f, 1}, {0xfe20, 0}, {0xfe2f, 0}, {0xfe30, 2}, {0xfe6f, 2}, {0xfe70, 1},
		{0xfeff, 1}, {0xff00, 2}, {0xff60, 2}, {0xff61, 1}, {0xffe6, 2}, {0xffe7, 1}, {0xfffd, 1},
		{0x1f64f, 2}, {0x1f650, 1}, {0x2fffd, 2}, {0x2fffe, 1}, {0x2ffff, 1}, {0x30000, 2}, {0x3fffd, 2}, {0x3fffe, 1},
		{0xe00ff, 1}, {0xe0100, 0}, {0xe01ef, 0}, {0xe01f0, 1}, {0x10ffff, 1}, {0x110000, 0},
	} {
		if got := runes.Width(c.r); got != c.want {
			t.Errorf("Width of %x is %d, want %d", c.r, got, c.want)
		}
	}
}

func TestSum(t *testing.T) {
	if got := runes.Sum('a', 0x4e00, 0x301, '\n', -1, 0xd800, 'b'); got != 4 {
		t.Errorf("%d, want 4", got)
	}
	r := rand.New(rand.NewSource(2))
	for range 2000 {
		var l []rune
		want := 0
		for range r.Intn(20) {
			x := anyRune(r)
			l = append(l, x)
			want += cells(x)
		}
		if got := runes.Sum(l...); got != want {
			t.Fatalf("Sum of %x is %d, want %d", l, got, want)
		}
	}
	many := make([]rune, 1<<20)
	for i := range many {
		many[i] = 0x4e00
	}
	if got := runes.Sum(many...); got != 1<<21 {
		t.Errorf("of many: %d", got)
	}
}
