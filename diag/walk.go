package diag

import (
	"errors"
	"iter"

	"flong/api"
)

// wrapper is an error around another one, bundle one around several: this package's own, and any other's.
type wrapper interface {
	Unwrap() error
}

type bundle interface {
	Unwrap() []error
}

// found goes through what New made in e, with what the moves around each do to its place.
func found(e error) iter.Seq2[*one, spot] {
	return func(yield func(*one, spot) bool) {
		walk(e, still(), yield)
	}
}

// first is the first of All, without making the others.
func first(e error) api.Diag {
	for o, by := range found(e) {
		return by.of(o.d)
	}
	return api.Diag{}
}

// walk tells false once yield does.
func walk(e error, by spot, yield func(*one, spot) bool) bool {
	if m, ok := e.(*moved); ok {
		by = by.within(m)
	}
	l, wraps := inside(e)
	if !wraps {
		o := made(e)
		return o == nil || yield(o, by)
	}
	for _, x := range l {
		if !walk(x, by, yield) {
			return false
		}
	}
	return true
}

// inside is what e wraps, and whether it wraps at all. An error from elsewhere may panic when asked: there is nothing in it then.
func inside(e error) (l []error, wraps bool) {
	defer func() {
		if recover() != nil {
			l, wraps = nil, true
		}
	}()
	switch x := e.(type) {
	case wrapper:
		return []error{x.Unwrap()}, true
	case bundle:
		return x.Unwrap(), true
	}
	return nil, false
}

// made is what New made, if e, which wraps nothing, is that; else nil. An error from elsewhere may have a method As, and may panic in it.
func made(e error) (o *one) {
	defer func() {
		if recover() != nil {
			o = nil
		}
	}()
	if !errors.As(e, &o) {
		return nil
	}
	return o
}

// reach is what moves do to a line, or to a column: add is added, and the sum is kept from low to high. Moves within moves are one reach again, so a place is told in one step, however deep it lies.
type reach struct {
	add, low, high int
}

func (r reach) of(n int) int {
	return min(max(n+r.add, r.low), r.high)
}

// within is a move by n, and then r. More than MaxPlace, either way, moves no place further: n is cut to that, so no sum lies beyond an int.
func (r reach) within(n int) reach {
	return reach{add: short(n) + r.add, low: r.of(0), high: r.of(api.MaxPlace)}
}

func short(n int) int {
	return min(max(n, -api.MaxPlace), api.MaxPlace)
}

// spot is the reach of lines, and of columns.
type spot struct {
	line, col reach
}

// still is without any move.
func still() spot {
	r := reach{high: api.MaxPlace}
	return spot{line: r, col: r}
}

func (s spot) within(m *moved) spot {
	return spot{line: s.line.within(m.lines), col: s.col.within(m.cols)}
}

func (s spot) of(d api.Diag) api.Diag {
	return api.Diag{Kind: d.Kind, Line: s.line.of(d.Line), Col: s.col.of(d.Col)}
}
