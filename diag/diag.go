// Package diag is layer 1: what is wrong, and where, as an error that is handed on, moved and joined.
package diag

import (
	"cmp"
	"errors"
	"slices"

	"flong/api"
)

// Clip is n as a place that may be: 0 to MaxPlace.
func Clip(n int) int {
	return min(max(n, 0), api.MaxPlace)
}

// New is an error of that kind, at that place; nil for kind 0.
func New(kind int, line int, col int) error {
	if kind == 0 {
		return nil
	}
	return &one{d: api.Diag{Kind: kind, Line: Clip(line), Col: Clip(col)}}
}

// Tell is New of what d says.
func Tell(d api.Diag) error {
	return New(d.Kind, d.Line, d.Col)
}

// Move wraps e, and moves each place in it by so much; nil for nil.
func Move(e error, lines int, cols int) error {
	if e == nil {
		return nil
	}
	return &moved{e: e, lines: lines, cols: cols}
}

// Join is all of l that are not nil, as one error; nil if there is none.
func Join(l ...error) error {
	var there []error
	for _, e := range l {
		if e != nil {
			there = append(there, e)
		}
	}
	if len(there) == 0 {
		return nil
	}
	return &joined{l: there}
}

// All tells each error that New made in e, depth first, with its place as the moves around it make it.
func All(e error) []api.Diag {
	var l []api.Diag
	for o, by := range found(e) {
		l = append(l, by.of(o.d))
	}
	return l
}

// Kind is that of the first of All; 0 if there is none.
func Kind(e error) int {
	return first(e).Kind
}

// Place is the line and the column of the first of All; 0, 0 if there is none.
func Place(e error) (int, int) {
	d := first(e)
	return d.Line, d.Col
}

// Is tells whether one of All is of that kind.
func Is(e error, kind int) bool {
	for o := range found(e) {
		if errors.Is(o, ofKind(kind)) {
			return true
		}
	}
	return false
}

// Sorted is l by line, then column, then kind.
func Sorted(l ...api.Diag) []api.Diag {
	out := slices.Clone(l)
	slices.SortStableFunc(out, order)
	return out
}

func order(a, b api.Diag) int {
	return cmp.Or(cmp.Compare(a.Line, b.Line), cmp.Compare(a.Col, b.Col), cmp.Compare(a.Kind, b.Kind))
}
