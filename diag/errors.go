package diag

import (
	"slices"
	"strconv"
	"strings"

	"flong/api"
)

// one is what New makes.
type one struct {
	d api.Diag
}

func (o *one) Error() string {
	return text(o.d)
}

// Is lets errors.Is find an error by its kind alone, wherever it stands.
func (o *one) Is(target error) bool {
	return target == ofKind(o.d.Kind)
}

// ofKind stands for any error of that kind, where errors.Is is asked.
type ofKind int

func (k ofKind) Error() string {
	return text(api.Diag{Kind: int(k)})
}

// moved is what Move makes.
type moved struct {
	e           error
	lines, cols int
}

func (m *moved) Error() string {
	return texts(m)
}

func (m *moved) Unwrap() error {
	return m.e
}

// joined is what Join makes.
type joined struct {
	l []error
}

func (j *joined) Error() string {
	return texts(j)
}

// Unwrap hands out a copy, for whoever asks may write into it.
func (j *joined) Unwrap() []error {
	return slices.Clone(j.l)
}

// text ends ahead of what is 0: a fault of a macro, say, has a line and no column.
func text(d api.Diag) string {
	s := ""
	switch {
	case d.Col != 0:
		s = ", column " + strconv.Itoa(d.Col)
		fallthrough
	case d.Line != 0:
		s = ", line " + strconv.Itoa(d.Line) + s
		fallthrough
	default:
		s = "kind " + strconv.Itoa(d.Kind) + s
	}
	return s
}

func texts(e error) string {
	var l []string
	for _, d := range All(e) {
		l = append(l, text(d))
	}
	if len(l) == 0 {
		return "nothing told"
	}
	return strings.Join(l, "; ")
}
