package tbl_test

import (
	"math"
	"runtime"
	"slices"
	"strings"
	"testing"

	"flong/api"
	"flong/tbl"
)

// many is as many lines as a document's bytes may tell.
const many = api.MaxInput / 2

// used is how many bytes a call takes.
func used(call func()) uint64 {
	var from, to runtime.MemStats
	runtime.ReadMemStats(&from)
	call()
	runtime.ReadMemStats(&to)
	return to.TotalAlloc - from.TotalAlloc
}

// A cell that goes on in many lines is not copied for each of them.
func TestLongBlock(t *testing.T) {
	l := append(lines("l.\nT{"), slices.Repeat([]string{"a"}, many)...)
	n := used(func() {
		x, diags := tbl.Parse(1, l...)
		if len(x.Rows) != 1 || len(x.Rows[0].Cells[0]) != 2*many-1 || len(diags) != 1 {
			t.Error(len(x.Rows), len(diags))
		}
	})
	if n/many > 2000 {
		t.Error("bytes for each line:", n/many)
	}
}

// A row of many cells that go on, one behind the other.
func TestManyBlocks(t *testing.T) {
	l := append(lines("l l.\nT{\na"), slices.Repeat(lines("T}\tT{\nb"), many)...)
	x, diags := tbl.Parse(1, l...)
	if len(x.Rows) != 1 || len(x.Rows[0].Cells) != 2 || !slices.Equal(diags, told(at(api.NotClosed, 2*many+2), at(api.TooMany, 2))) {
		t.Error(len(x.Rows), diags)
	}
}

func TestManyRows(t *testing.T) {
	cols := words(api.MaxCols, "l") + "."
	l := append([]string{cols}, slices.Repeat([]string{"a", "_", `\q`}, many/3)...)
	x, diags := tbl.Parse(1, l...)
	if len(x.Rows) != len(l)-1 || len(diags) != many/3 {
		t.Error(len(x.Rows), len(diags))
	}
	if out := tbl.Print(x); len(out) != len(l) || out[0] != cols || out[1] != "a"+strings.Repeat("\t", api.MaxCols-1) || out[2] != "_" {
		t.Error(len(out))
	}
}

func TestManyCells(t *testing.T) {
	x, diags := tbl.Parse(1, "l.", strings.Repeat("a\t", many), strings.Repeat("\t", many))
	if len(x.Rows) != 2 || !slices.Equal(diags, told(at(api.TooMany, 2), at(api.TooMany, 3))) {
		t.Error(len(x.Rows), diags)
	}
	if l := tbl.Cut(strings.Repeat("\t", many)); len(l) != many+1 {
		t.Error(len(l))
	}
}

func TestManyWords(t *testing.T) {
	s := words(many, "c")
	if cols, ok := tbl.Columns(s); cols != strings.Repeat("c", many) || !ok {
		t.Error(len(cols), ok)
	}
	if box, all, ok := tbl.Look(words(many, "box") + ";"); !box || all || !ok {
		t.Error(box, all, ok)
	}
	x, diags := tbl.Parse(1, slices.Repeat([]string{words(api.MaxCols+1, "x")}, 1000)...)
	if x.Cols != strings.Repeat("l", api.MaxCols) || len(diags) != 2001 {
		t.Error(x, len(diags))
	}
}

// Lines may be numbered from any number on.
func TestAnyNumber(t *testing.T) {
	for _, line := range []int{math.MinInt, -1, 0, api.MaxPlace, math.MaxInt - 2} {
		x, diags := tbl.Parse(line, "x;", "r", `\q`)
		if x.Cols != "l" || !slices.Equal(diags, told(at(api.BadTable, line), at(api.BadTable, line+2), at(api.NotClosed, line))) {
			t.Error(line, x, diags)
		}
	}
	tbl.Parse(math.MaxInt, "x;", "x", "x.", `\q`, "T{")
}
