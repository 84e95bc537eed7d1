package escape

import "flong/runes"

// names are those of runes that have one which is no number.
func names() map[string]rune {
	return map[string]rune{
		"em": 0x2014,
		"en": 0x2013,
		"hy": 0x2010,
		"bu": 0x2022,
		"lq": 0x201c,
		"rq": 0x201d,
		"oq": 0x2018,
		"cq": 0x2019,
		"aq": 0x27,
		"dq": 0x22,
		"co": 0xa9,
		"rg": 0xae,
		"tm": 0x2122,
		"rs": 0x5c,
		"ha": 0x5e,
		"ti": 0x7e,
		"mu": 0xd7,
		"di": 0xf7,
		"<-": 0x2190,
		"->": 0x2192,
		"<=": 0x2264,
		">=": 0x2265,
		"!=": 0x2260,
		"de": 0xb0,
		"sc": 0xa7,
		"Eu": 0x20ac,
		"u:": 0xfc,
		"o:": 0xf6,
		"a:": 0xe4,
		"ss": 0xdf,
	}
}

// Name is the rune that s names, if there is one.
func Name(s string) (rune, bool) {
	return find(names(), s)
}

func find(names map[string]rune, s string) (rune, bool) {
	if r, ok := names[s]; ok {
		return r, true
	}
	return numbered(s)
}

// numbered is the rune that s names by its number.
func numbered(s string) (rune, bool) {
	const least, most = len("u0041"), len("u10FFFF")
	if len(s) < least || len(s) > most || s[0] != 'u' {
		return 0, false
	}
	n := rune(0)
	for _, c := range s[1:] {
		d, ok := digit(c)
		if !ok {
			return 0, false
		}
		n = n<<4 + d
	}
	if !runes.Valid(n) || runes.Control(n) {
		return 0, false
	}
	return n, true
}

func digit(c rune) (rune, bool) {
	switch {
	case '0' <= c && c <= '9':
		return c - '0', true
	case 'A' <= c && c <= 'F':
		return c - 'A' + 10, true
	}
	return 0, false
}

// Font is the number by which s tells how glyphs are set, if it does.
func Font(s string) (rune, bool) {
	switch s {
	case "R", "1":
		return 0, true
	case "B", "2":
		return 1, true
	case "I", "3":
		return 2, true
	case "BI", "4":
		return 3, true
	case "P":
		return 4, true
	}
	return 0, false
}
