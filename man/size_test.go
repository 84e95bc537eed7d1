package man_test

import (
	"runtime"
	"slices"
	"strings"
	"testing"

	"flong/api"
	"flong/man"
	"flong/tree"
)

// filled is as many of s as a document's bytes may be.
func filled(s string) (string, int) {
	n := api.MaxInput / len(s)
	return strings.Repeat(s, n), n
}

// used is how many bytes a call takes.
func used(call func()) uint64 {
	var from, to runtime.MemStats
	runtime.ReadMemStats(&from)
	call()
	runtime.ReadMemStats(&to)
	return to.TotalAlloc - from.TotalAlloc
}

// Of many lines none is copied for each of those behind it, wherever they stand.
func TestManyLines(t *testing.T) {
	for _, c := range []struct {
		ahead  string
		leaves int // of n lines, each
	}{
		{"", 1},
		{".SH\n", 1},
		{".TP\n", 1},
		{".RS\n.IP a\n", 1},
		{".EX\n", 1},
		{".TS\nl.\n", 1},
		{".TS\nl.\nT{\n", 1},
		{".TS\n", 0},
	} {
		s, n := filled("a\n")
		took := used(func() {
			d, diags := man.Read(c.ahead + s)
			if got := len(tree.Leaves(d.Kids...)); got < n*c.leaves || got > n*c.leaves+1 || len(diags) > n+3 {
				t.Error(c.ahead, got, len(diags))
			}
		})
		if took/uint64(n) > 3000 {
			t.Errorf("%q: bytes for each line: %d", c.ahead, took/uint64(n))
		}
	}
}

// Of many macros of each kind none takes the longer the more there are.
func TestManyMacros(t *testing.T) {
	for _, s := range []string{".SH a\n", ".SS a\n", ".SH\n", ".SS\na\n", ".PP\n", ".TP\n", ".TP\na\nb\n", ".IP a\n", ".RS\n", ".RE\n", ".RS\na\n.RE\n", ".EX\n", ".EE\n", ".EX\n.EE\n", ".TS\n", ".TS\n.TE\n", ".TE\n", ".TH\n", ".zz\n", ".B\n", ".B a\n", ".EX\n.B\n.fi\n", ".SH\n.B\n"} {
		all, n := filled(s)
		took := used(func() {
			d, diags := man.Read(all)
			if tree.Check(d) != api.OK || len(diags) > 2*n+2 {
				t.Error(s, len(diags))
			}
		})
		if took/uint64(n) > 20000 {
			t.Errorf("%q: bytes for each: %d", s, took/uint64(n))
		}
	}
}

// Of more nodes than may be the first ones count.
func TestManyNodes(t *testing.T) {
	s, n := filled(".IP a\nb\n")
	d, diags := man.Read(s)
	if tree.Count(d.Kids...) != api.MaxNodes || len(d.Kids) != api.MaxNodes/2 || n < api.MaxNodes {
		t.Error(tree.Count(d.Kids...), len(d.Kids))
	}
	if !slices.Equal(diags, told(at(api.NoTitle, 0))) {
		t.Error(diags)
	}
	// Blocks of nothing are nodes as they are told, too.
	d, _ = man.Read(strings.Repeat(".EX\n.EE\n", api.MaxNodes/2) + strings.Repeat(".TS\nl.\n.TE\n", api.MaxNodes/2-1) + ".SH a\n.PP\nb")
	if !tree.Same(d.Kids, nodes(section(5*api.MaxNodes/2-2, "a"))) {
		t.Error(d)
	}
}

// One line may be as long as a document.
func TestLongLine(t *testing.T) {
	for _, ahead := range []string{"", ".SH ", ".SS ", ".IP ", ".TP ", ".RS ", ".B ", ".BR ", ".TH ", ".EX\n", ".TS\nl.\n", ".TS\n"} {
		for _, part := range []string{"a", "a ", `\q`, `\fB`, "a\t", `"`, "\u4e00", "1"} {
			s, _ := filled(part)
			d, _ := man.Read(ahead + s)
			if e := tree.Check(d); e != api.OK {
				t.Errorf("%q, many %q: %d", ahead, part, e)
			}
		}
	}
}
