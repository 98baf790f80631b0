package wipe

import (
	"math"
	"math/rand"
	"slices"
	"strings"
	"testing"

	"greenscreen/api"
	"greenscreen/plane"
)

// form is a plane as the chapter has it: a row of cells, and the cursor. Nothing of it is worked out by the layers below.
type form struct {
	cells  []api.Cell
	cursor int
}

// formOf is what stands on a plane.
func formOf(p *plane.Plane) *form {
	f := &form{cursor: p.Cursor()}
	for at := range p.Len() {
		f.cells = append(f.cells, p.At(at))
	}
	return f
}

// clone is another one of the same.
func (f *form) clone() *form { return &form{cells: slices.Clone(f.cells), cursor: f.cursor} }

// has tells whether there is such a place.
func (f *form) has(at int) bool { return at >= 0 && at < len(f.cells) }

// start is the place of the attribute of a place's field, itself if it is one: -1 without any. It goes back, cell by cell.
func (f *form) start(at int) int {
	for back := range f.cells {
		if to := (at - back + len(f.cells)) % len(f.cells); f.cells[to].Start {
			return to
		}
	}
	return -1
}

// protected tells whether the field that begins there is.
func (f *form) protected(start int) bool { return f.cells[start].Byte&0x20 != 0 }

// isOpen tells whether something may be typed at a place.
func (f *form) isOpen(at int) bool {
	start := f.start(at)
	return f.has(at) && (start < 0 || start != at && !f.protected(start))
}

// home is where the cursor is set to: behind the first attribute, by its place, of an open field that has cells.
func (f *form) home() int {
	for at, c := range f.cells {
		if behind := (at + 1) % len(f.cells); c.Start && !f.protected(at) && !f.cells[behind].Start {
			return behind
		}
	}
	return 0
}

// openAll is Open.
func (f *form) openAll() int {
	was, many := f.clone(), 0
	for at := range f.cells {
		switch {
		case was.isOpen(at):
			f.cells[at] = api.Cell{}
			many++
		case was.cells[at].Start && !was.protected(at):
			f.cells[at].Byte &= 0xFE
		}
	}
	f.cursor = f.home()
	return many
}

// rest is Rest.
func (f *form) rest(from int) (int, bool) {
	if !f.isOpen(from) {
		return 0, false
	}
	start, many := f.start(from), 0
	for at := from; !f.cells[at].Start; at = (at + 1) % len(f.cells) {
		f.cells[at] = api.Cell{}
		many++
		if start < 0 && at+1 == len(f.cells) {
			return many, true
		}
	}
	f.cells[start].Byte |= 1
	return many, true
}

// inside is Inside: so many cells behind a place. A cell is counted once, however often the places go round.
func (f *form) inside(start, many int) int {
	if !f.has(start) || many < 0 {
		return 0
	}
	gone := map[int]bool{}
	for i := range many {
		at := (start + 1 + i) % len(f.cells)
		f.cells[at] = api.Cell{}
		gone[at] = true
	}
	return len(gone)
}

// sizes are planes of one cell to nine.
var sizes = []api.Size{
	{Rows: 1, Cols: 1}, {Rows: 1, Cols: 2}, {Rows: 3, Cols: 1}, {Rows: 2, Cols: 2}, {Rows: 1, Cols: 5}, {Rows: 2, Cols: 3}, {Rows: 7, Cols: 1}, {Rows: 4, Cols: 2}, {Rows: 3, Cols: 3},
}

// sized is a plane of that size.
func sized(t *testing.T, s api.Size) *plane.Plane {
	t.Helper()
	p, e := plane.New(s)
	if e != api.OK {
		t.Fatalf("%v: %d", s, e)
	}
	return p
}

// strew lays any cells on a plane, attributes at these places alone, and the cursor somewhere.
func strew(r *rand.Rand, p *plane.Plane, isStart func(at int) bool) {
	for at := range p.Len() {
		p.Set(at, api.Cell{Byte: byte(r.Intn(256)), GE: r.Intn(3) == 0, Start: isStart(at), Light: byte(r.Intn(256)), Color: byte(r.Intn(256))})
	}
	p.Point(r.Intn(p.Len()))
}

// eachPlane tries planes of up to nine cells, with attributes at each choice of their places: none, one alone at each, at all.
func eachPlane(t *testing.T, try func(p *plane.Plane)) {
	t.Helper()
	r := rand.New(rand.NewSource(51))
	for _, s := range sizes {
		p := sized(t, s)
		for choice := range 1 << p.Len() {
			for range 3 {
				strew(r, p, func(at int) bool { return choice>>at&1 == 1 })
				try(p)
			}
		}
	}
}

// largePlanes tries great ones: without a field, with few, many, and nothing but attributes.
func largePlanes(t *testing.T, try func(p *plane.Plane)) {
	t.Helper()
	r := rand.New(rand.NewSource(52))
	for _, s := range []api.Size{{Rows: 24, Cols: 80}, {Rows: 43, Cols: 95}, {Rows: 32, Cols: 128}} {
		for _, one := range []int{0, 1, 2, 7, 100, 1500} {
			p := sized(t, s)
			strew(r, p, func(int) bool { return one > 0 && r.Intn(one) == 0 })
			try(p)
		}
	}
}

// noPlaces are numbers that are no place of so many cells.
func noPlaces(many int) []int {
	return []int{math.MinInt, math.MinInt + 1, math.MinInt32, -4097, -many - 1, -many, -2, -1, many, many + 1, 2 * many, 16384, math.MaxInt32, 1 << 32, math.MaxInt - 1, math.MaxInt}
}

// wantForm tells what of a plane isn't as said.
func wantForm(t *testing.T, p *plane.Plane, want *form, what string) {
	t.Helper()
	if p.Len() != len(want.cells) || p.Cursor() != want.cursor {
		t.Fatalf("%s: %d cells, the cursor at %d, not %d and %d", what, p.Len(), p.Cursor(), len(want.cells), want.cursor)
	}
	for at, c := range want.cells {
		if got := p.At(at); got != c {
			t.Fatalf("%s: the cell at %d is %v, not %v", what, at, got, c)
		}
	}
}

// wantAttributes tells which attribute isn't as it was, but for whether it is modified, and which cell has become one.
func wantAttributes(t *testing.T, was *form, p *plane.Plane, what string) {
	t.Helper()
	for at, c := range was.cells {
		got := p.At(at)
		got.Byte |= 1
		c.Byte |= 1
		if (c.Start || got.Start) && got != c {
			t.Fatalf("%s: the attribute at %d is %v, not %v", what, at, p.At(at), was.cells[at])
		}
	}
}

// wantProtected tells which cell of a protected field, or attribute of one, isn't as it was.
func wantProtected(t *testing.T, was *form, p *plane.Plane, what string) {
	t.Helper()
	for at, c := range was.cells {
		if start := was.start(at); start >= 0 && was.protected(start) && p.At(at) != c {
			t.Fatalf("%s: %d, of a protected field, is %v, not %v", what, at, p.At(at), c)
		}
	}
}

// cellOf is the cell that a sign stands for: A to I are C1 to C9, a to i the same of GE, ( an attribute 00, [ one of 20, ) one of 01, ] one of 21, . the zero cell.
func cellOf(sign byte) api.Cell {
	switch {
	case sign == '(':
		return api.Cell{Start: true}
	case sign == '[':
		return api.Cell{Start: true, Byte: 0x20}
	case sign == ')':
		return api.Cell{Start: true, Byte: 0x01}
	case sign == ']':
		return api.Cell{Start: true, Byte: 0x21}
	case sign >= 'A' && sign <= 'I':
		return api.Cell{Byte: sign - 'A' + 0xC1}
	case sign >= 'a' && sign <= 'i':
		return api.Cell{Byte: sign - 'a' + 0xC1, GE: true}
	}
	return api.Cell{}
}

// laid is a plane of one row, as it is drawn.
func laid(t *testing.T, drawing string) *plane.Plane {
	t.Helper()
	p := sized(t, api.Size{Rows: 1, Cols: len(drawing)})
	for at := range drawing {
		p.Set(at, cellOf(drawing[at]))
	}
	return p
}

// drawn is a plane, one sign a cell; ? is one that isn't drawn.
func drawn(p *plane.Plane) string {
	var out strings.Builder
	for at := range p.Len() {
		sign := byte('?')
		for _, of := range []byte(".ABCDEFGHIabcdefghi([)]") {
			if cellOf(of) == p.At(at) {
				sign = of
			}
		}
		out.WriteByte(sign)
	}
	return out.String()
}
