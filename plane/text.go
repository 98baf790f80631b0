package plane

import (
	"iter"
	"strings"
	"unicode/utf8"

	"greenscreen/addr"
	"greenscreen/api"
	"greenscreen/code"
)

// Text is cells as a text.
func (p *Plane) Text(page, from, n int) string {
	var text strings.Builder
	// Bytes are told many at a time, as layer 1 makes a page's signs anew each time.
	var bytes []byte
	for c := range p.cellsFrom(from, n) {
		switch {
		case c.Start:
			// Layer 1 tells this byte as a blank.
			bytes = append(bytes, 0)
		case c.GE:
			text.WriteString(code.Text(page, bytes))
			bytes = bytes[:0]
			text.WriteRune(code.Special(c.Byte))
		default:
			bytes = append(bytes, c.Byte)
		}
	}
	text.WriteString(code.Text(page, bytes))
	return text.String()
}

// cellsFrom is so many cells from a place on, going round, none twice.
func (p *Plane) cellsFrom(from, n int) iter.Seq[api.Cell] {
	return func(yield func(api.Cell) bool) {
		if n <= 0 {
			return
		}
		behind := addr.Move(p.Size(), from, min(n, p.Len()))
		for at := range addr.Between(p.Size(), from, behind) {
			if !yield(p.At(at)) {
				return
			}
		}
	}
}

// Rows is the rows as texts.
func (p *Plane) Rows(page int) []string {
	var rows []string
	size := p.Size()
	for row := range size.Rows {
		rows = append(rows, p.Text(page, row*size.Cols, size.Cols))
	}
	return rows
}

// Find is the first place from which on a text stands.
func (p *Plane) Find(page int, text string) int {
	signs := utf8.RuneCountInString(text)
	// Bytes that are no text's are no cell's sign, but they might stand within the bytes of one.
	if signs > p.Len() || !utf8.ValidString(text) {
		return -1
	}
	// What begins ahead of the end may go on at the beginning.
	all := p.Text(page, 0, p.Len()) + p.Text(page, 0, signs-1)
	at := strings.Index(all, text)
	if at < 0 {
		return -1
	}
	return utf8.RuneCountInString(all[:at])
}
