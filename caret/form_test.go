package caret

import (
	"math"
	"math/big"
	"math/rand"
	"testing"

	"greenscreen/api"
	"greenscreen/plane"
)

// form is a plane as the chapter has it: rows of cells, and the cursor. Nothing of it is worked out by the layers below.
type form struct {
	size   api.Size
	cells  []api.Cell
	cursor int
}

// formOf is what stands on a plane.
func formOf(p *plane.Plane) *form {
	f := &form{size: p.Size(), cursor: p.Cursor()}
	for at := range p.Len() {
		f.cells = append(f.cells, p.At(at))
	}
	return f
}

// round is a place, going round.
func (f *form) round(at int) int { return (at%len(f.cells) + len(f.cells)) % len(f.cells) }

// start is the place of the attribute of a place's field, itself if it is one: -1 without any.
func (f *form) start(at int) int {
	for by := range f.cells {
		if to := f.round(at - by); f.cells[to].Start {
			return to
		}
	}
	return -1
}

// protected tells whether the field that begins there is.
func (f *form) protected(start int) bool { return f.cells[start].Byte&0x20 != 0 }

// isOpen tells whether something may be typed at a place.
func (f *form) isOpen(at int) bool {
	start := f.start(at)
	return start < 0 || start != at && !f.protected(start)
}

// begins tells whether an open field that has cells begins there.
func (f *form) begins(at int) bool {
	return f.cells[at].Start && !f.protected(at) && !f.cells[f.round(at+1)].Start
}

// entries are the first places of all open fields, by where their attributes stand.
func (f *form) entries() []int {
	var out []int
	for at := range f.cells {
		if f.begins(at) {
			out = append(out, f.round(at+1))
		}
	}
	return out
}

// from is the first place of the first open field that begins there or step by step from there.
func (f *form) from(at, step int) int {
	for by := range f.cells {
		if to := f.round(at + by*step); f.begins(to) {
			return f.round(to + 1)
		}
	}
	return 0
}

// move is Move, by numbers that have no bounds.
func (f *form) move(rows, cols int) int {
	to := new(big.Int).Mul(big.NewInt(int64(rows)), big.NewInt(int64(f.size.Cols)))
	to.Add(to, big.NewInt(int64(cols)))
	to.Add(to, big.NewInt(int64(f.cursor)))
	return int(to.Mod(to, big.NewInt(int64(len(f.cells)))).Int64())
}

// tab is Tab.
func (f *form) tab() int { return f.from(f.cursor, 1) }

// back is Back.
func (f *form) back() int {
	start := f.start(f.cursor)
	if start >= 0 && f.begins(start) && start != f.cursor && f.round(start+1) != f.cursor {
		return f.round(start + 1)
	}
	return f.from(f.cursor-2, -1)
}

// newline is Newline: each place is tried by itself.
func (f *form) newline() int {
	row := (f.cursor/f.size.Cols + 1) % f.size.Rows
	for by := range f.cells {
		if to := f.round(row*f.size.Cols + by); f.isOpen(to) {
			return to
		}
	}
	return 0
}

// home is Home.
func (f *form) home() int {
	for _, at := range f.entries() {
		return at
	}
	return 0
}

// on is On.
func (f *form) on() int {
	to := f.round(f.cursor + 1)
	if !f.cells[to].Start {
		return to
	}
	if f.cells[to].Byte&0x30 == 0x30 {
		return f.from(to, 1)
	}
	return f.round(to + 1)
}

// a call is one of those that go by the cursor alone.
type call struct {
	name string
	do   func(p *plane.Plane) int
	form func(f *form) int
	// open: it comes to places at which something may be typed (P19.2).
	open bool
}

// calls are all of these.
func calls() []call {
	return []call{
		{"Tab", Tab, (*form).tab, true},
		{"Back", Back, (*form).back, true},
		{"Newline", Newline, (*form).newline, true},
		{"Home", Home, (*form).home, true},
		{"On", On, (*form).on, false},
	}
}

// sizes are planes of one cell to nine.
var sizes = []api.Size{
	{Rows: 1, Cols: 1}, {Rows: 1, Cols: 2}, {Rows: 3, Cols: 1}, {Rows: 2, Cols: 2}, {Rows: 1, Cols: 5}, {Rows: 2, Cols: 3}, {Rows: 7, Cols: 1}, {Rows: 4, Cols: 2}, {Rows: 3, Cols: 3},
}

// sized is a plane of that size.
func sized(t *testing.T, s api.Size) *plane.Plane {
	t.Helper()
	p, e := plane.New(s)
	if e != api.OK {
		t.Fatalf("%v: %d", s, e)
	}
	return p
}

// strew lays any cells on a plane, attributes at these places alone, and the cursor somewhere.
func strew(r *rand.Rand, p *plane.Plane, isStart func(at int) bool, attribute func() byte) {
	for at := range p.Len() {
		c := api.Cell{Byte: byte(r.Intn(256)), GE: r.Intn(3) == 0, Start: isStart(at), Light: byte(r.Intn(256)), Color: byte(r.Intn(256))}
		if c.Start {
			c.Byte = attribute()
		}
		p.Set(at, c)
	}
	p.Point(r.Intn(p.Len()))
}

// eachPlane tries planes of up to nine cells, with attributes at each choice of their places, of any kind, all open, all protected, and all skipped or open.
func eachPlane(t *testing.T, try func(p *plane.Plane)) {
	t.Helper()
	r := rand.New(rand.NewSource(61))
	for _, s := range sizes {
		p := sized(t, s)
		for choice := range 1 << p.Len() {
			for _, attribute := range attributes(r) {
				strew(r, p, func(at int) bool { return choice>>at&1 == 1 }, attribute)
				try(p)
			}
		}
	}
}

// attributes are rules by which a plane's attributes are made.
func attributes(r *rand.Rand) []func() byte {
	return []func() byte{
		func() byte { return byte(r.Intn(256)) },
		func() byte { return byte(r.Intn(256)) },
		func() byte { return byte(r.Intn(256)) &^ 0x20 },
		func() byte { return byte(r.Intn(256)) | 0x20 },
		func() byte { return []byte{0x00, 0x30, 0x71, 0xC1}[r.Intn(4)] },
	}
}

// largePlanes tries great ones: without a field, with few, many, and nothing but attributes.
func largePlanes(t *testing.T, try func(r *rand.Rand, p *plane.Plane)) {
	t.Helper()
	r := rand.New(rand.NewSource(62))
	for _, s := range []api.Size{{Rows: 24, Cols: 80}, {Rows: 43, Cols: 95}, {Rows: 32, Cols: 128}} {
		for _, one := range []int{0, 1, 2, 7, 100, 1500} {
			for _, attribute := range attributes(r) {
				p := sized(t, s)
				strew(r, p, func(int) bool { return one > 0 && r.Intn(one) == 0 }, attribute)
				try(r, p)
			}
		}
	}
}

// edges are some places of a great plane: its ends, those beside attributes, and any.
func edges(r *rand.Rand, p *plane.Plane) []int {
	many := p.Len()
	out := []int{0, 1, 2, p.Size().Cols - 1, p.Size().Cols, many / 2, many - p.Size().Cols, many - 3, many - 2, many - 1}
	for at := range many {
		if p.At(at).Start && r.Intn(many/8) == 0 {
			out = append(out, (at+many-1)%many, at, (at+1)%many, (at+2)%many, (at+3)%many)
		}
	}
	return append(out, r.Intn(many), r.Intn(many), r.Intn(many))
}

// steps are how far one may go: numbers about a bound, and the greatest and smallest that there are.
func steps(bound int) []int {
	return []int{
		math.MinInt, math.MinInt + 1, -1 << 62, math.MinInt64 / 3, math.MinInt32 - 1, math.MinInt32, -4097, -2*bound - 1, -2 * bound, -bound - 1, -bound, 1 - bound, -2, -1, 0,
		1, 2, bound - 1, bound, bound + 1, 2 * bound, 2*bound + 1, 4097, math.MaxInt32, math.MaxInt32 + 1, math.MaxInt64 / 3, 1 << 62, math.MaxInt - 1, math.MaxInt,
	}
}

// wantCells tells which cell isn't as it was.
func wantCells(t *testing.T, p *plane.Plane, was *form, what string) {
	t.Helper()
	if p.Size() != was.size || p.Len() != len(was.cells) {
		t.Fatalf("%s: the size is %v", what, p.Size())
	}
	for at, c := range was.cells {
		if p.At(at) != c {
			t.Fatalf("%s: the cell at %d is %v, not %v", what, at, p.At(at), c)
		}
	}
}

// cellOf is the cell that a sign stands for: ( < [ { are the attributes 00, 10 (numeric), 20 (protected) and 30 (skipped), ) > ] } the same, modified; . is the zero cell, others are C1.
func cellOf(sign byte) api.Cell {
	for i, of := range []byte("(<[{") {
		if sign == of {
			return api.Cell{Start: true, Byte: byte(i) << 4}
		}
	}
	for i, of := range []byte(")>]}") {
		if sign == of {
			return api.Cell{Start: true, Byte: byte(i)<<4 | 1}
		}
	}
	if sign == '.' {
		return api.Cell{}
	}
	return api.Cell{Byte: 0xC1}
}

// laid is a plane, as its rows are drawn.
func laid(t *testing.T, rows ...string) *plane.Plane {
	t.Helper()
	s := api.Size{Rows: len(rows), Cols: len(rows[0])}
	p := sized(t, s)
	for row, drawing := range rows {
		for col := range drawing {
			p.Set(row*s.Cols+col, cellOf(drawing[col]))
		}
	}
	return p
}
