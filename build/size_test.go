package build_test

import (
	"runtime"
	"sync"
	"testing"

	"flong/api"
	"flong/build"
	"flong/tree"
)

// A paragraph of as many texts as a document's bytes may tell is not copied for each of them.
func TestLongParagraph(t *testing.T) {
	const n = api.MaxInput
	b, l := build.New(), row("a")
	var from, to runtime.MemStats
	runtime.ReadMemStats(&from)
	for i := range n {
		b.Text(l, i)
	}
	runtime.ReadMemStats(&to)
	if each := (to.TotalAlloc - from.TotalAlloc) / n; each > 1000 {
		t.Error("bytes for each text:", each)
	}
	d := b.Doc()
	if len(d.Kids) != 1 || d.Kids[0].Line != 0 || len(d.Kids[0].Text) != 2*n-1 || len(tree.Leaves(d.Kids...)) != n {
		t.Error(len(d.Kids))
	}
}

// As many as may be nested in one another, opened, or handed in.
func TestManyWithinOneAnother(t *testing.T) {
	const n = 1 << 16
	b := build.New()
	x := para(1, "a")
	for range n {
		b.Open(sub("s"))
		x = sub("s", x)
	}
	b.Add(x)
	stands(t, "opened", b, n, api.Sub)
	if k := len(b.Doc().Kids); k != api.MaxNodes {
		t.Error("subs that are none, within one another", k)
	}
	b.Shut(api.Sub)
	b.Text(row("a"), 1)
	stands(t, "shut", b, 0)
	if k := len(b.Doc().Kids); k != api.MaxNodes {
		t.Error("shut", k)
	}
}

// Nodes that stand one behind the other take no longer the more there are.
func TestManyBehindOneAnother(t *testing.T) {
	const n = 1 << 18
	b := build.New()
	b.Open(section("S"))
	for i := range n {
		b.Open(tag("t"))
		b.Text(row("a"), i)
		if !b.Close(api.Tag) {
			t.Fatal(i)
		}
	}
	if d := b.Doc(); tree.Count(d.Kids...) != api.MaxNodes {
		t.Error(tree.Count(d.Kids...))
	}
}

// Doc, Inside and Depth change nothing, so that several may ask at once.
func TestAskedAtOnce(t *testing.T) {
	b := build.New()
	for i := range 5 {
		// Of 5, there is room behind the list.
		for range 5 {
			b.Add(para(i, "a"))
		}
		b.Open(indent(i, para(i, "b")))
	}
	b.Text(row("c"), 9)
	want := b.Doc().Kids
	var wait sync.WaitGroup
	for range 8 {
		wait.Go(func() {
			stands(t, "at once", b, 5, api.Indent)
			told(t, "at once", b, want...)
		})
	}
	wait.Wait()
}
