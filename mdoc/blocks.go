package mdoc

import (
	"slices"
	"strconv"

	"flong/api"
	"flong/cells"
	"flong/man"
)

// What a block is: a list, by what stands ahead of its items, or a display.
const (
	tags = iota
	bullets
	numbers
	items
	display
	literal
)

// The steps of blocks and items.
const (
	usual    = 7 // of a tag that tells none, and of a display
	ofBullet = 2
	ofNumber = 4
)

const bullet = "\u2022"

// block is a list, or a display, that is open.
type block struct {
	what   int
	line   int
	width  int           // of a list's tags
	items  int           // as many as it had
	tagged bool          // whether the node of the last one is open
	rows   [][]api.Glyph // of a literal display
}

func (b *block) isList() bool {
	return b != nil && b.what <= items
}

func (b *block) isDisplay() bool {
	return b != nil && b.what >= display
}

func (b *block) isLiteral() bool {
	return b != nil && b.what == literal
}

// innermost is the block that all others stand around, or nil.
func (r *reader) innermost() *block {
	if n := len(r.blocks); n > 0 {
		return r.blocks[n-1]
	}
	return nil
}

// begin opens a block, with a node for what stands in it.
func (r *reader) begin(b *block, step int) {
	if r.open(api.Node{Kind: api.Indent, Line: b.line, N: step}) {
		r.blocks = append(r.blocks, b)
	}
}

// close closes the innermost block.
func (r *reader) close() {
	b := r.innermost()
	r.blocks = r.blocks[:len(r.blocks)-1]
	if b.isLiteral() {
		r.told.Add(api.Node{Kind: api.Verb, Line: b.line, Rows: b.rows})
		return
	}
	r.told.Close(api.Indent)
}

// closeAll closes all blocks, and tells that nothing else did.
func (r *reader) closeAll() {
	for b := r.innermost(); b != nil; b = r.innermost() {
		r.tell(api.NotClosed, b.line)
		r.close()
	}
}

// closeIf closes the innermost block, if x is the macro for that.
func (r *reader) closeIf(is bool, x api.Row) {
	if !is {
		r.tell(api.NotOpen, x.Line)
		return
	}
	r.close()
}

// list is a macro that begins one.
func (r *reader) list(x api.Row) {
	what := r.listed(x)
	width := r.width(x)
	r.begin(&block{what: what, line: x.Line, width: width}, 0)
}

// listed is what a list is.
func (r *reader) listed(x api.Row) int {
	if len(x.Args) > 0 {
		switch x.Args[0] {
		case "-tag":
			return tags
		case "-bullet":
			return bullets
		case "-enum":
			return numbers
		case "-item":
			return items
		}
	}
	r.tell(api.BadArgs, x.Line)
	return items
}

// width is how wide a list's tags are.
func (r *reader) width(x api.Row) int {
	i := slices.Index(x.Args, "-width")
	if i < 0 {
		return usual
	}
	var s string
	if i+1 < len(x.Args) {
		s = x.Args[i+1]
	}
	n, ok := man.Number(s, usual)
	if !ok {
		r.tell(api.BadArgs, x.Line)
	}
	return n
}

// item is a macro that begins an item of a list.
func (r *reader) item(x api.Row) {
	b := r.innermost()
	if !b.isList() {
		r.tell(api.NotHere, x.Line)
		return
	}
	if b.tagged {
		r.told.Close(api.Tag)
	}
	b.items++
	y := api.Node{Kind: api.Tag, Line: x.Line}
	switch b.what {
	case tags:
		y.Text, y.N = r.said(x.Line, x.Args...), b.width
	case bullets:
		y.Text, y.N = cells.Of(bullet, api.Plain), ofBullet
	case numbers:
		y.Text, y.N = cells.Of(strconv.Itoa(b.items)+".", api.Plain), ofNumber
	}
	b.tagged = r.open(y)
}

// display is a macro that begins one.
func (r *reader) display(x api.Row) {
	if len(x.Args) > 0 && x.Args[0] == "-literal" {
		r.told.End()
		r.blocks = append(r.blocks, &block{what: literal, line: x.Line})
		return
	}
	r.begin(&block{what: display, line: x.Line}, usual)
}
