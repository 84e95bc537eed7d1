package mdoc

import (
	"slices"

	"flong/api"
	"flong/cells"
	"flong/styles"
)

const blank = ' '

// phrase is words that are being read, element by element, and what they have told so far.
type phrase struct {
	name   string
	opened int // how many brackets all words stand in
	pieces []api.Piece
	diags  []api.Diag
}

// Pieces is what words say, the name that is known behind them, and what is wrong with them.
func Pieces(name string, words ...string) ([]api.Piece, string, []api.Diag) {
	p := &phrase{name: name}
	kind, from := "No", 0
	for i, w := range words {
		if Callable(w) {
			p.element(kind, words[from:i]...)
			kind, from = w, i+1
		}
	}
	p.element(kind, words[from:]...)
	for range p.opened {
		p.sign("]")
	}
	return p.pieces, p.name, p.diags
}

// Join is all pieces' glyphs, with a blank between those that do not stick together.
func Join(l ...api.Piece) []api.Glyph {
	var row []api.Glyph
	sticks := true // nothing stands ahead of the first one
	for _, x := range l {
		if len(x.Text) == 0 {
			continue
		}
		if !sticks && !x.Left {
			row = append(row, api.Glyph{R: blank})
		}
		row = append(row, x.Text...)
		sticks = x.Right
	}
	return row
}

// sticking is whether a word is a sign, that sticks to what is ahead of it, or to what is behind.
func sticking(w string) (left bool, right bool) {
	switch w {
	case ".", ",", ":", ";", ")", "]", "?", "!":
		return true, false
	case "(", "[":
		return false, true
	}
	return false, false
}

// sign puts w, if it is a sign, and tells whether it is.
func (p *phrase) sign(w string) bool {
	left, right := sticking(w)
	if !left && !right {
		return false
	}
	p.pieces = append(p.pieces, api.Piece{Text: cells.Of(w, api.Plain), Left: left, Right: right})
	return true
}

// element puts the pieces of an element.
func (p *phrase) element(kind string, words ...string) {
	if kind == "Op" {
		p.opened++
		p.sign("[")
	}
	if !slices.ContainsFunc(words, spoken) {
		p.bare(kind)
	}
	nth := 0
words:
	for _, w := range words {
		if p.sign(w) {
			continue words
		}
		p.word(kind, nth, w)
		nth++
	}
}

// spoken is whether a word is no sign.
func spoken(w string) bool {
	left, right := sticking(w)
	return !left && !right
}

// bare puts what an element that has no words but signs says.
func (p *phrase) bare(kind string) {
	switch kind {
	case "Ar":
		p.word(kind, 0, "file")
		p.word(kind, 0, "...")
	case "Fl":
		p.word(kind, 0, "")
	case "Nm":
		p.word(kind, 0, p.name)
	}
}

// word puts the piece of a word that counts as no sign, the nth of its element from 0 on.
func (p *phrase) word(kind string, nth int, w string) {
	var x api.Piece
	var set uint8
	var ahead, behind string
	switch {
	case kind == "Fl":
		ahead = "-"
		fallthrough
	case kind == "Cm", kind == "Nm", kind == "Sy", kind == "Xr" && nth == 0:
		set = api.Bold
	case kind == "Ar", kind == "Em":
		set = api.Slant
	case kind == "Xr" && nth == 1:
		ahead, behind, x.Left = "(", ")", true
	}
	if kind == "Nm" && p.name == "" {
		p.name = w
	}
	l, _, wrong := styles.Line(api.Face{Now: set, Was: set}, w)
	x.Text = slices.Concat(cells.Of(ahead, set), l, cells.Of(behind, set))
	p.pieces = append(p.pieces, x)
	p.diags = append(p.diags, wrong...)
}
