package mdoc_test

import (
	"runtime"
	"slices"
	"strings"
	"testing"

	"flong/api"
	"flong/cells"
	"flong/mdoc"
	"flong/tree"
)

// filled is as many of s as a document's bytes may be.
func filled(s string) (string, int) {
	n := api.MaxInput / len(s)
	return strings.Repeat(s, n), n
}

// used is how many bytes a call takes.
func used(call func()) uint64 {
	var from, to runtime.MemStats
	runtime.ReadMemStats(&from)
	call()
	runtime.ReadMemStats(&to)
	return to.TotalAlloc - from.TotalAlloc
}

// Of many lines none is copied for each of those behind it, wherever they stand.
func TestManyLines(t *testing.T) {
	for _, ahead := range []string{"", ".Sh a\n", ".Bl -tag\n", ".Bl -tag\n.It a\n", ".Bd\n", ".Bd -literal\n"} {
		for _, line := range []string{"a\n", ".Em a\n", ".Nm a\n"} {
			s, n := filled(line)
			took := used(func() {
				d, diags := mdoc.Read(ahead + s)
				if got := len(tree.Leaves(d.Kids...)); got < n || got > n+1 || len(diags) > 2 {
					t.Error(ahead, got, len(diags))
				}
			})
			if took/uint64(n) > 3000 {
				t.Errorf("%q, %q: bytes for each line: %d", ahead, line, took/uint64(n))
			}
		}
	}
}

// Of many macros of each kind none takes the longer the more there are.
func TestManyMacros(t *testing.T) {
	for _, s := range []string{".Sh a\n", ".Ss a\n", ".Sh\n", ".Pp\n", "a\n.Pp\n", ".Bl\n", ".Bl -tag\n.El\n", ".Bl -tag\n.It a\n.El\n", ".Bl -enum -width x\n.It\n.Sh a\n", ".It\n", ".El\n", ".Bd\n", ".Bd\n.Ed\n", ".Bd -literal\n", ".Bd -literal\n.Ed\n", ".Ed\n", ".Dt\n", ".Dd a\n", ".Os a\n", ".Zz\n", ".Op\n", ".Ar\n", ".Op Fl a Ar b ,\n"} {
		all, n := filled(s)
		took := used(func() {
			d, diags := mdoc.Read(all)
			if tree.Check(d) != api.OK || len(diags) > 3*n+2 {
				t.Error(s, len(diags))
			}
		})
		if took/uint64(n) > 20000 {
			t.Errorf("%q: bytes for each: %d", s, took/uint64(n))
		}
	}
}

// Of many items none is copied for each of those behind it, and they are numbered to the last that a document may have.
func TestManyItems(t *testing.T) {
	s, n := filled(".It\nb\n")
	for _, of := range []string{"-tag", "-bullet", "-enum", "-item"} {
		took := used(func() {
			d, diags := mdoc.Read(".Dt x\n.Bl " + of + "\n" + s + ".El\n")
			if tree.Count(d.Kids...) != api.MaxNodes || len(d.Kids) != 1 || len(diags) != 0 || n < api.MaxNodes {
				t.Error(of, tree.Count(d.Kids...), diags)
			}
			if last := d.Kids[0].Kids[api.MaxNodes/2-1]; of == "-enum" && cells.Text(last.Text...) != "10000." {
				t.Error(last)
			}
		})
		if took/uint64(n) > 5000 {
			t.Errorf("%q: bytes for each: %d", of, took/uint64(n))
		}
	}
}

// A row may have many more words than MaxArgs.
func TestManyWords(t *testing.T) {
	for _, part := range []string{"a", "", ".", "Op", "Fl", "Ar", "Nm", "Xr", `\q`, "Nm a", "Op ( a Fl b"} {
		l := slices.Repeat(words(part), api.MaxInput/8)
		if part == "" {
			l = make([]string, api.MaxInput/8)
		}
		took := used(func() {
			said, _, _ := mdoc.Pieces("n", l...)
			row := mdoc.Join(said...)
			if len(said) > 3*len(l) || len(row) > 3*len(l)*len("file ...") {
				t.Error(part, len(said), len(row))
			}
		})
		if took/uint64(len(l)) > 2000 {
			t.Errorf("%q: bytes for each: %d", part, took/uint64(len(l)))
		}
		d, _ := mdoc.Parse(macro(1, "No", l...), macro(2, "Sh", l...), macro(3, "Bl", "-tag"), macro(4, "It", l...), macro(5, "Bl", l...))
		if e := tree.Check(d); e != api.OK {
			t.Error(part, e)
		}
	}
}

// One line may be as long as a document.
func TestLongLine(t *testing.T) {
	for _, ahead := range []string{"", ".Sh ", ".Ss ", ".Nm ", ".Op Fl ", ".Xr a ", ".Bl -tag\n.It ", ".Bl -tag -width ", ".Bl ", ".Bd ", ".Dt ", ".Dd ", ".Bd -literal\n", ".Bd -literal\n.Em ", ".Zz "} {
		for _, part := range []string{"a", "a ", `\q`, `\fB`, "Op ", ". ", "a\t", `"`, "\u4e00", "1"} {
			s, _ := filled(part)
			d, _ := mdoc.Any(".Dt x\n" + ahead + s)
			if e := tree.Check(d); e != api.OK {
				t.Errorf("%q, many %q: %d", ahead, part, e)
			}
		}
	}
}
