package escape_test

import (
	"strconv"
	"strings"
	"testing"

	"flong/escape"
	"flong/runes"
)

// named is the list as the chapter has it.
const named = "em 2014, en 2013, hy 2010, bu 2022, lq 201c, rq 201d, oq 2018, cq 2019, aq 27, dq 22, co a9, rg ae, tm 2122, rs 5c, ha 5e, ti 7e, mu d7, di f7, <- 2190, -> 2192, <= 2264, >= 2265, != 2260, de b0, sc a7, Eu 20ac, u: fc, o: f6, a: e4, ss df"

// list is named's names, and the rune of each.
func list(t *testing.T) map[string]rune {
	all := map[string]rune{}
	for s := range strings.SplitSeq(named, ", ") {
		name, number, _ := strings.Cut(s, " ")
		n, err := strconv.ParseInt(number, 16, 32)
		if err != nil {
			t.Fatal(err)
		}
		all[name] = rune(n)
	}
	return all
}

func noName(t *testing.T, s string) {
	t.Helper()
	if r, ok := escape.Name(s); r != 0 || ok {
		t.Errorf("Name of %+q: %x, %v", s, r, ok)
	}
}

func TestNamesOfTheList(t *testing.T) {
	all := list(t)
	if len(all) != 30 {
		t.Fatal(len(all))
	}
	for name, want := range all {
		if r, ok := escape.Name(name); r != want || !ok {
			t.Errorf("Name of %q: %x, %v, want %x", name, r, ok, want)
		}
		noName(t, name+" ")
		noName(t, " "+name)
		noName(t, name[:1])
		noName(t, name+name)
	}
}

// Of two runes there are no other names.
func TestNamesOfTwoRunes(t *testing.T) {
	all := list(t)
	for a := rune(0); a < 0x100; a++ {
		for b := rune(0); b < 0x100; b++ {
			s := string([]rune{a, b})
			want, there := all[s]
			if r, ok := escape.Name(s); r != want || ok != there {
				t.Fatalf("Name of %+q: %x, %v, want %x", s, r, ok, want)
			}
		}
	}
}

// Every number that a rune may have is tried, and some above, and a few with other digits than they need.
func TestNamesByNumber(t *testing.T) {
	for n := range rune(0x110100) {
		hex := strings.ToUpper(strconv.FormatInt(int64(n), 16))
		for len(hex) < 4 {
			hex = "0" + hex
		}
		want, there := n, runes.Valid(n) && !runes.Control(n)
		if !there {
			want = 0
		}
		if r, ok := escape.Name("u" + hex); r != want || ok != there {
			t.Fatalf("Name of u%s: %x, %v", hex, r, ok)
		}
	}
	for _, s := range []string{"u00041", "u000041"} {
		if r, ok := escape.Name(s); r != 'A' || !ok {
			t.Errorf("Name of %q: %x, %v", s, r, ok)
		}
	}
}

func TestNamesThatAreNone(t *testing.T) {
	for _, s := range []string{
		"", "e", "zz", "EM", "Em", "eu", "U:", "emm", "em\x00",
		"u", "u4", "u41", "u041", "u0000041", "u00000041", "u0000000000041",
		"U0041", "0041", "a0041", "uu0041", "u 0041", "u0041 ", "u+041", "u-041", "u0x41", "u00_41",
		"u004g", "u00e9", "u00Eg", "u:041", "u004/", "u004:", "u004@", "u004G", "u004`",
		"u\u0660\u0661", "u\uff11\uff12", "\xffu0041", "u004\xff", "u\xff\xff\xff\xff",
		"uD800", "uDFFF", "u0DABC", "u110000", "uFFFFFF",
		"u0000", "u0009", "u001F", "u007F", "u0080", "u009F", "u2028", "u2029", "u002028",
	} {
		noName(t, s)
	}
	noName(t, "u"+strings.Repeat("0", 1<<20)+"41")
	for s, want := range map[string]rune{"u0020": 0x20, "u00A0": 0xa0, "u2027": 0x2027, "u202A": 0x202a, "uD7FF": 0xd7ff, "uE000": 0xe000, "uFFFD": 0xfffd, "uFFFF": 0xffff, "u10FFFF": 0x10ffff, "u0301": 0x301} {
		if r, ok := escape.Name(s); r != want || !ok {
			t.Errorf("Name of %q: %x, %v", s, r, ok)
		}
	}
}

func TestFont(t *testing.T) {
	all := map[string]rune{"R": 0, "1": 0, "B": 1, "2": 1, "I": 2, "3": 2, "BI": 3, "4": 3, "P": 4}
	check := func(s string) {
		t.Helper()
		want, there := all[s]
		if n, ok := escape.Font(s); n != want || ok != there {
			t.Errorf("Font of %+q: %d, %v", s, n, ok)
		}
	}
	for s := range all {
		check(s)
		check(s + " ")
		check(" " + s)
		check(s + s)
		check(strings.ToLower(s))
	}
	for a := rune(0); a < 0x100; a++ {
		check(string(a))
		for b := rune(0); b < 0x100; b++ {
			check(string([]rune{a, b}))
		}
	}
	for _, s := range []string{"", "BIB", "IB", "CW", "BR", "\xff", "\u4e00", strings.Repeat("B", 1<<20)} {
		check(s)
	}
}
