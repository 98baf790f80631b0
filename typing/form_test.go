package typing

import (
	"math/rand"
	"slices"
	"strings"
	"testing"

	"greenscreen/api"
	"greenscreen/plane"
)

// form is a plane as the chapter has it: a row of cells, and the cursor. Nothing of it is worked out by the layers below.
type form struct {
	cells  []api.Cell
	cursor int
}

// formOf is what stands on a plane.
func formOf(p *plane.Plane) *form {
	f := &form{cursor: p.Cursor()}
	for at := range p.Len() {
		f.cells = append(f.cells, p.At(at))
	}
	return f
}

// clone is another one of the same.
func (f *form) clone() *form { return &form{cells: slices.Clone(f.cells), cursor: f.cursor} }

// round is a place, going round.
func (f *form) round(at int) int { return (at + len(f.cells)) % len(f.cells) }

// start is the place of the attribute of a place's field, itself if it is one: -1 without any.
func (f *form) start(at int) int {
	for by := range f.cells {
		if to := f.round(at - by); f.cells[to].Start {
			return to
		}
	}
	return -1
}

// is tells whether an attribute has all of these bits.
func (f *form) is(start int, bits byte) bool { return f.cells[start].Byte&bits == bits }

// isOpen tells whether something may be typed at a place.
func (f *form) isOpen(at int) bool {
	start := f.start(at)
	return start < 0 || start != at && !f.is(start, 0x20)
}

// row is the places of an open place's row.
func (f *form) row(at int) []int {
	out := []int{at}
	formatted := f.start(at) >= 0
	for next := f.round(at + 1); !f.cells[next].Start && next != at && (formatted || next != 0); next = f.round(next + 1) {
		out = append(out, next)
	}
	return out
}

// tab sets the cursor to the first place of the next open field from a place on.
func (f *form) tab(from int) {
	for by := range f.cells {
		at := f.round(from + by)
		behind := f.round(at + 1)
		if f.cells[at].Start && !f.is(at, 0x20) && !f.cells[behind].Start {
			f.cursor = behind
			return
		}
	}
	f.cursor = 0
}

// on sets the cursor further on.
func (f *form) on() {
	f.cursor = f.round(f.cursor + 1)
	switch {
	case !f.cells[f.cursor].Start:
	case f.is(f.cursor, 0x30):
		f.tab(f.cursor)
	default:
		f.cursor = f.round(f.cursor + 1)
	}
}

// mark lets the field of a place be modified.
func (f *form) mark(at int) {
	if start := f.start(at); start >= 0 {
		f.cells[start].Byte |= 1
	}
}

// refused is the error of a byte that can't be typed.
func (f *form) refused(b byte, insert bool) api.Errno {
	if !f.isOpen(f.cursor) {
		return api.ErrProtected
	}
	if start := f.start(f.cursor); start >= 0 && f.is(start, 0x10) && !strings.Contains("\xF0\xF1\xF2\xF3\xF4\xF5\xF6\xF7\xF8\xF9\x4B\x60\x1C", string([]byte{b})) {
		return api.ErrNumeric
	}
	if insert && f.gap() < 0 {
		return api.ErrOver
	}
	return api.OK
}

// gap is how many cells ahead of its first empty one the row has: -1 without one.
func (f *form) gap() int {
	for i, at := range f.row(f.cursor) {
		if c := f.cells[at]; c.Byte == 0 && !c.GE {
			return i
		}
	}
	return -1
}

// put is Put.
func (f *form) put(b byte, insert bool) api.Errno {
	if e := f.refused(b, insert); e != api.OK {
		return e
	}
	row, was := f.row(f.cursor), f.clone()
	if insert {
		for i := range f.gap() {
			f.cells[row[i+1]] = was.cells[row[i]]
		}
	}
	f.cells[f.cursor] = api.Cell{Byte: b, Light: was.cells[f.cursor].Light, Color: was.cells[f.cursor].Color}
	f.mark(f.cursor)
	f.on()
	return api.OK
}

// string is String.
func (f *form) string(b []byte, insert bool) (int, api.Errno) {
	for i, one := range b {
		if e := f.put(one, insert); e != api.OK {
			return i, e
		}
	}
	return len(b), api.OK
}

// delete is Delete.
func (f *form) delete() api.Errno {
	if !f.isOpen(f.cursor) {
		return api.ErrProtected
	}
	row, was := f.row(f.cursor), f.clone()
	for i, at := range row {
		f.cells[at] = api.Cell{}
		if i+1 < len(row) {
			f.cells[at] = was.cells[row[i+1]]
		}
	}
	f.mark(f.cursor)
	return api.OK
}

// end is End.
func (f *form) end() api.Errno {
	if !f.isOpen(f.cursor) {
		return api.ErrProtected
	}
	for _, at := range f.row(f.cursor) {
		f.cells[at] = api.Cell{}
	}
	f.mark(f.cursor)
	return api.OK
}

// dup is Dup.
func (f *form) dup(insert bool) api.Errno {
	from := f.cursor
	e := f.put(0x1C, insert)
	if e == api.OK {
		f.tab(from)
	}
	return e
}

// a call is one of those that answer an error alone.
type call struct {
	name string
	do   func(p *plane.Plane) api.Errno
	form func(f *form) api.Errno
}

// puts are Put of a byte, with insert and without.
func puts(b byte) []call {
	var out []call
	for _, insert := range []bool{false, true} {
		name := "Put"
		if insert {
			name = "Put, insert"
		}
		out = append(out, call{name, func(p *plane.Plane) api.Errno { return Put(p, b, insert) }, func(f *form) api.Errno { return f.put(b, insert) }})
	}
	return out
}

// others are all but Put and String.
func others() []call {
	return []call{
		{"Delete", Delete, (*form).delete},
		{"End", End, (*form).end},
		{"Dup", func(p *plane.Plane) api.Errno { return Dup(p, false) }, func(f *form) api.Errno { return f.dup(false) }},
		{"Dup, insert", func(p *plane.Plane) api.Errno { return Dup(p, true) }, func(f *form) api.Errno { return f.dup(true) }},
		{"Mark", func(p *plane.Plane) api.Errno { return Mark(p, false) }, func(f *form) api.Errno { return f.put(0x1E, false) }},
		{"Mark, insert", func(p *plane.Plane) api.Errno { return Mark(p, true) }, func(f *form) api.Errno { return f.put(0x1E, true) }},
	}
}

// sizes are planes of one cell to nine.
var sizes = []api.Size{
	{Rows: 1, Cols: 1}, {Rows: 1, Cols: 2}, {Rows: 3, Cols: 1}, {Rows: 2, Cols: 2}, {Rows: 1, Cols: 5}, {Rows: 2, Cols: 3}, {Rows: 7, Cols: 1}, {Rows: 4, Cols: 2}, {Rows: 3, Cols: 3},
}

// sized is a plane of that size.
func sized(t *testing.T, s api.Size) *plane.Plane {
	t.Helper()
	p, e := plane.New(s)
	if e != api.OK {
		t.Fatalf("%v: %d", s, e)
	}
	return p
}

// strew lays any cells on a plane, many of which are empty or nearly, attributes at these places alone, and the cursor somewhere.
func strew(r *rand.Rand, p *plane.Plane, isStart func(at int) bool, attribute func() byte) {
	empty := 1 + r.Intn(5)
	for at := range p.Len() {
		c := api.Cell{Byte: byte(r.Intn(256)), GE: r.Intn(3) == 0, Start: isStart(at), Light: byte(r.Intn(256)), Color: byte(r.Intn(256))}
		if r.Intn(empty) == 0 {
			c.Byte = 0
		}
		if c.Start {
			c.Byte = attribute()
		}
		p.Set(at, c)
	}
	p.Point(r.Intn(p.Len()))
}

// attributes are rules by which a plane's attributes are made: any, all open, and the four kinds.
func attributes(r *rand.Rand) []func() byte {
	return []func() byte{
		func() byte { return byte(r.Intn(256)) },
		func() byte { return byte(r.Intn(256)) &^ 0x20 },
		func() byte { return byte(r.Intn(256)) &^ 0x30 },
		func() byte { return []byte{0x00, 0x10, 0x20, 0x30}[r.Intn(4)] },
	}
}

// eachPlane tries planes of up to nine cells, with attributes at each choice of their places.
func eachPlane(t *testing.T, try func(r *rand.Rand, p *plane.Plane)) {
	t.Helper()
	r := rand.New(rand.NewSource(71))
	for _, s := range sizes {
		p := sized(t, s)
		for choice := range 1 << p.Len() {
			for _, attribute := range attributes(r) {
				strew(r, p, func(at int) bool { return choice>>at&1 == 1 }, attribute)
				try(r, p)
			}
		}
	}
}

// largePlanes tries great ones: without a field, with few, many, and nothing but attributes.
func largePlanes(t *testing.T, try func(r *rand.Rand, p *plane.Plane)) {
	t.Helper()
	r := rand.New(rand.NewSource(72))
	for _, s := range []api.Size{{Rows: 24, Cols: 80}, {Rows: 43, Cols: 95}, {Rows: 32, Cols: 128}} {
		for _, one := range []int{0, 1, 2, 7, 100, 1500} {
			for _, attribute := range attributes(r) {
				p := sized(t, s)
				strew(r, p, func(int) bool { return one > 0 && r.Intn(one) == 0 }, attribute)
				try(r, p)
			}
		}
	}
}

// edges are some places of a great plane: its ends, and any.
func edges(r *rand.Rand, p *plane.Plane) []int {
	many := p.Len()
	return []int{0, 1, many / 2, many - 2, many - 1, r.Intn(many), r.Intn(many), r.Intn(many)}
}

// someByte is a byte that may be typed into a numeric field, one just beside these, or any.
func someByte(r *rand.Rand) byte {
	some := []byte{0x00, 0x1B, 0x1C, 0x1D, 0x1E, 0x40, 0x4A, 0x4B, 0x4C, 0x5F, 0x60, 0x61, 0xC1, 0xEF, 0xF0, 0xF1, 0xF8, 0xF9, 0xFA, 0xFF}
	if i := r.Intn(2 * len(some)); i < len(some) {
		return some[i]
	}
	return byte(r.Intn(256))
}

// wantForm tells what of a plane isn't as said.
func wantForm(t *testing.T, p *plane.Plane, want *form, what string) {
	t.Helper()
	if p.Len() != len(want.cells) || p.Cursor() != want.cursor {
		t.Fatalf("%s: %d cells, the cursor at %d, not %d and %d", what, p.Len(), p.Cursor(), len(want.cells), want.cursor)
	}
	for at, c := range want.cells {
		if got := p.At(at); got != c {
			t.Fatalf("%s: the cell at %d is %v, not %v", what, at, got, c)
		}
	}
}

// wantKept tells which attribute isn't as it was, but for whether it is modified, and which cell or attribute of a protected field isn't (P20.2).
func wantKept(t *testing.T, p *plane.Plane, was *form, what string) {
	t.Helper()
	last := was.start(0)
	for at, c := range was.cells {
		got := p.At(at)
		if c.Start {
			last = at
		}
		if last >= 0 && was.is(last, 0x20) && got != c {
			t.Fatalf("%s: %d, of a protected field, is %v, not %v", what, at, got, c)
		}
		got.Byte |= 1
		c.Byte |= 1
		if (c.Start || got.Start) && got != c {
			t.Fatalf("%s: the attribute at %d is %v, not %v", what, at, p.At(at), was.cells[at])
		}
	}
}

// attributeSigns are the signs of 00, 10 (numeric), 20 (protected), 30 (skipped), and of the same, modified.
const attributeSigns = "(<[{)>]}"

// cellOf is the cell that a sign stands for: attributeSigns, A to I for C1 to C9, a to i for the same of GE, digits for F0 to F9, / and ; for what Dup and Mark type, : for GE and Byte 0, . for the zero cell.
func cellOf(sign byte) api.Cell {
	if i := strings.IndexByte(attributeSigns, sign); i >= 0 {
		return api.Cell{Start: true, Byte: byte(i%4<<4 | i/4)}
	}
	switch {
	case sign >= 'A' && sign <= 'I':
		return api.Cell{Byte: sign - 'A' + 0xC1}
	case sign >= 'a' && sign <= 'i':
		return api.Cell{Byte: sign - 'a' + 0xC1, GE: true}
	case sign >= '0' && sign <= '9':
		return api.Cell{Byte: sign - '0' + 0xF0}
	case sign == '/':
		return api.Cell{Byte: 0x1C}
	case sign == ';':
		return api.Cell{Byte: 0x1E}
	case sign == ':':
		return api.Cell{GE: true}
	}
	return api.Cell{}
}

// laid is a plane of one row, as it is drawn.
func laid(t *testing.T, drawing string) *plane.Plane {
	t.Helper()
	p := sized(t, api.Size{Rows: 1, Cols: len(drawing)})
	for at := range drawing {
		p.Set(at, cellOf(drawing[at]))
	}
	return p
}

// drawn is a plane, one sign a cell; ? is one that isn't drawn.
func drawn(p *plane.Plane) string {
	var out strings.Builder
	for at := range p.Len() {
		sign := byte('?')
		for _, of := range []byte(".:ABCDEFGHIabcdefghi0123456789/;" + attributeSigns) {
			if cellOf(of) == p.At(at) {
				sign = of
			}
		}
		out.WriteByte(sign)
	}
	return out.String()
}
