package lines

import "strings"

// Args is the arguments that s tells, and whether each quoted one ends.
func Args(s string) ([]string, bool) {
	var args []string
	ok := true
args:
	for s != "" {
		switch c := s[0]; {
		case blank(c):
			s = s[1:]
		case c == '"':
			arg, n, ends := unquoted(s)
			args = append(args, arg)
			s = s[n:]
			if !ends {
				ok = false
				break args
			}
			if s == "" || blank(s[0]) {
				continue args
			}
			// What stands behind a quoted one is no quotation mark, so it is an argument of its own.
			fallthrough
		default:
			n := unblank(s)
			args = append(args, s[:n])
			s = s[n:]
		}
	}
	return args, ok
}

// Quoted is s, such that Args reads it as one argument.
func Quoted(s string) string {
	return `"` + strings.ReplaceAll(s, `"`, `""`) + `"`
}

// unquoted is the quoted argument that s begins with, how many bytes it has there, and whether it ends.
func unquoted(s string) (string, int, bool) {
	for i := 1; i < len(s); i++ {
		switch {
		case s[i] != '"':
		case strings.HasPrefix(s[i:], `""`):
			i++
		default:
			return single(s[1:i]), i + 1, true
		}
	}
	return single(s[1:]), len(s), false
}

// single is s with one quotation mark in place of two.
func single(s string) string {
	return strings.ReplaceAll(s, `""`, `"`)
}

// unblank is how many bytes stand in s ahead of the first blank that is one.
func unblank(s string) int {
	for i := range len(s) {
		if blank(s[i]) && !slashed(s[:i]) {
			return i
		}
	}
	return len(s)
}

func blank(c byte) bool {
	return c == ' ' || c == '\t'
}
