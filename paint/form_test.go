package paint

import (
	"math"
	"math/rand"
	"slices"
	"strings"
	"testing"

	"greenscreen/api"
	"greenscreen/plane"
)

// form is a plane as the chapter has it: a row of cells, and the cursor. Nothing of it is worked out by the layers below.
type form struct {
	cells  []api.Cell
	cursor int
}

// formOf is what stands on a plane.
func formOf(p *plane.Plane) *form {
	f := &form{cursor: p.Cursor()}
	for at := range p.Len() {
		f.cells = append(f.cells, p.At(at))
	}
	return f
}

// clone is another one of the same.
func (f *form) clone() *form { return &form{cells: slices.Clone(f.cells), cursor: f.cursor} }

// has tells whether there is such a place.
func (f *form) has(at int) bool { return at >= 0 && at < len(f.cells) }

// open tells whether something may be typed at a place: it goes back, cell by cell, to the first attribute.
func (f *form) open(at int) bool {
	for back := range f.cells {
		c := f.cells[(at-back+len(f.cells))%len(f.cells)]
		if c.Start {
			return back > 0 && c.Byte&0x20 == 0
		}
	}
	return true
}

// upTo is the places from one on, up to another one, going round: all of them, if both are one.
func (f *form) upTo(from, to int) []int {
	out := []int{from}
	for at := (from + 1) % len(f.cells); at != to; at = (at + 1) % len(f.cells) {
		out = append(out, at)
	}
	return out
}

// toEnd is the places from one on, up to the last one.
func (f *form) toEnd(from int) []int {
	var out []int
	for at := from; at < len(f.cells); at++ {
		out = append(out, at)
	}
	return out
}

// dressed is a cell with pairs.
func dressed(c api.Cell, ps []api.Pair) api.Cell {
	for _, p := range ps {
		switch p.Type {
		case 0xC0:
			c.Byte = p.Value % 64
		case 0x41:
			c.Light = p.Value
		case 0x42:
			c.Color = p.Value
		case 0:
			c.Light, c.Color = 0, 0
		}
	}
	return c
}

// paint does orders.
func (f *form) paint(os []api.Order, from int) (int, int, api.Errno) {
	if !f.has(from) {
		return 0, 0, api.ErrAddress
	}
	at, look := from, api.Cell{}
	for i, o := range os {
		next, e := f.order(os[:i], o, at, &look)
		if e != api.OK {
			return at, i, e
		}
		at = next % len(f.cells)
	}
	return at, len(os), api.OK
}

// order does one, behind others, and tells the place behind it, which may be the one behind the last.
func (f *form) order(ahead []api.Order, o api.Order, at int, look *api.Cell) (int, api.Errno) {
	seen := api.Cell{Byte: o.Byte, Light: look.Light, Color: look.Color}
	switch o.Kind {
	case 0x00:
		for i, b := range o.Data {
			seen.Byte = b
			f.cells[(at+i)%len(f.cells)] = seen
		}
		return at + len(o.Data), api.OK
	case 0x08:
		seen.GE = true
		f.cells[at] = seen
		return at + 1, api.OK
	case 0x1D:
		f.cells[at] = api.Cell{Start: true, Byte: o.Byte % 64}
		return at + 1, api.OK
	case 0x29:
		f.cells[at] = dressed(api.Cell{Start: true}, o.Pairs)
		return at + 1, api.OK
	case 0x2C:
		if !f.cells[at].Start {
			return 0, api.ErrOrder
		}
		f.cells[at] = dressed(f.cells[at], o.Pairs)
		return at + 1, api.OK
	case 0x28:
		*look = dressed(*look, o.Pairs)
		return at, api.OK
	case 0x13:
		f.cursor = at
		return at, api.OK
	case 0x05:
		return f.tab(ahead, at), api.OK
	case 0x11, 0x12, 0x3C:
		if !f.has(o.Addr) {
			return 0, api.ErrAddress
		}
		f.far(o, at, seen)
		return o.Addr, api.OK
	}
	return 0, api.ErrOrder
}

// tab is PT, behind others.
func (f *form) tab(ahead []api.Order, at int) int {
	if i := len(ahead) - 1; i >= 0 && (ahead[i].Kind == 0x08 || ahead[i].Kind == 0x00 && len(ahead[i].Data) > 0) {
		for _, to := range f.toEnd(at) {
			if f.cells[to].Start {
				break
			}
			f.cells[to] = api.Cell{}
		}
	}
	for _, to := range f.toEnd(at) {
		if f.cells[to].Start && f.cells[to].Byte&0x20 == 0 {
			return to + 1
		}
	}
	return 0
}

// far is what an order that goes to a place does on the way there.
func (f *form) far(o api.Order, at int, seen api.Cell) {
	was := f.clone()
	for _, to := range f.upTo(at, o.Addr) {
		switch {
		case o.Kind == 0x3C:
			seen.GE = o.GE
			f.cells[to] = seen
		case o.Kind == 0x12 && was.open(to):
			f.cells[to] = api.Cell{}
		}
	}
}

// sizes are planes of one cell to nine.
var sizes = []api.Size{
	{Rows: 1, Cols: 1}, {Rows: 1, Cols: 2}, {Rows: 3, Cols: 1}, {Rows: 2, Cols: 2}, {Rows: 1, Cols: 5}, {Rows: 2, Cols: 3}, {Rows: 7, Cols: 1}, {Rows: 4, Cols: 2}, {Rows: 3, Cols: 3},
}

// great are sizes of screens as they are.
var great = []api.Size{{Rows: 24, Cols: 80}, {Rows: 43, Cols: 95}, {Rows: 32, Cols: 128}}

// kinds are all that there are.
var kinds = []byte{0x00, 0x05, 0x08, 0x11, 0x12, 0x13, 0x1D, 0x28, 0x29, 0x2C, 0x3C}

// sized is a plane of that size.
func sized(t *testing.T, s api.Size) *plane.Plane {
	t.Helper()
	p, e := plane.New(s)
	if e != api.OK {
		t.Fatalf("%v: %d", s, e)
	}
	return p
}

// strew lays any cells on a plane, attributes at these places alone, and the cursor somewhere.
func strew(r *rand.Rand, p *plane.Plane, isStart func(at int) bool) {
	for at := range p.Len() {
		p.Set(at, api.Cell{Byte: byte(r.Intn(256)), GE: r.Intn(3) == 0, Start: isStart(at), Light: byte(r.Intn(256)), Color: byte(r.Intn(256))})
	}
	p.Point(r.Intn(p.Len()))
}

// eachPlane tries planes of up to nine cells, with attributes at each choice of their places: none, one alone at each, at all.
func eachPlane(t *testing.T, try func(r *rand.Rand, p *plane.Plane)) {
	t.Helper()
	r := rand.New(rand.NewSource(41))
	for _, s := range sizes {
		p := sized(t, s)
		for choice := range 1 << p.Len() {
			strew(r, p, func(at int) bool { return choice>>at&1 == 1 })
			try(r, p)
		}
	}
}

// noPlaces are numbers that are no place of so many cells.
func noPlaces(many int) []int {
	return []int{math.MinInt, math.MinInt + 1, math.MinInt32, -4097, -many - 1, -many, -2, -1, many, many + 1, 2 * many, 16384, math.MaxInt32, 1 << 32, math.MaxInt - 1, math.MaxInt}
}

// somePair is any, mostly one that is known.
func somePair(r *rand.Rand) api.Pair {
	return api.Pair{Type: []byte{0xC0, 0x41, 0x42, 0, byte(r.Intn(256))}[r.Intn(5)], Value: byte(r.Intn(256))}
}

// someOrder is one of a kind, for a plane of so many cells: one in many goes to a place that isn't there.
func someOrder(r *rand.Rand, kind byte, many int) api.Order {
	o := api.Order{Kind: kind}
	switch kind {
	case api.OrderData:
		o.Data = make([]byte, []int{0, 1, 2, 3, many, many + 1, 2*many + 1}[r.Intn(7)])
		for i := range o.Data {
			o.Data[i] = byte(r.Intn(256))
		}
	case api.OrderSBA, api.OrderRA, api.OrderEUA:
		o.Addr = r.Intn(many)
		if r.Intn(30) == 0 {
			o.Addr = noPlaces(many)[r.Intn(16)]
		}
	case api.OrderSA, api.OrderSFE, api.OrderMF:
		for range r.Intn(4) {
			o.Pairs = append(o.Pairs, somePair(r))
		}
	}
	o.Byte = byte(r.Intn(256))
	o.GE = kind == api.OrderRA && r.Intn(2) == 0
	return o
}

// someRow is so many orders of any kinds, now and then one of a kind that is none.
func someRow(r *rand.Rand, length, many int) []api.Order {
	var out []api.Order
	for range length {
		kind := kinds[r.Intn(len(kinds))]
		if r.Intn(60) == 0 {
			kind = byte(r.Intn(256))
		}
		out = append(out, someOrder(r, kind, many))
	}
	return out
}

// orders is orders with memory of their own.
func orders(os []api.Order) []api.Order {
	out := slices.Clone(os)
	for i := range out {
		out[i].Data = slices.Clone(out[i].Data)
		out[i].Pairs = slices.Clone(out[i].Pairs)
	}
	return out
}

// wantForm tells what of a plane isn't as said.
func wantForm(t *testing.T, p *plane.Plane, want *form, what string) {
	t.Helper()
	if p.Len() != len(want.cells) || p.Cursor() != want.cursor {
		t.Fatalf("%s: %d cells, the cursor at %d, not %d and %d", what, p.Len(), p.Cursor(), len(want.cells), want.cursor)
	}
	for at, c := range want.cells {
		if got := p.At(at); got != c {
			t.Fatalf("%s: the cell at %d is %v, not %v", what, at, got, c)
		}
	}
}

// hold does orders on a plane's clone, and on its form, and tells where they differ; answered is what was done.
func hold(t *testing.T, p *plane.Plane, os []api.Order, from int) (*plane.Plane, int, int, api.Errno) {
	t.Helper()
	got, want := p.Clone(), formOf(p)
	at, done, e := Paint(got, os, from)
	wantAt, wantDone, wantE := want.paint(os, from)
	if at != wantAt || done != wantDone || e != wantE {
		t.Fatalf("from %d on %q, %v: %d %d %d, not %d %d %d", from, drawn(p), os, at, done, e, wantAt, wantDone, wantE)
	}
	if got.Size() != p.Size() {
		t.Fatalf("the size is %v, not %v", got.Size(), p.Size())
	}
	wantForm(t, got, want, drawn(p))
	return got, at, done, e
}

// drawn is a plane, one sign a cell: . is the zero cell, A to I are C1 to C9, a to i the same of GE, ( an attribute 00, [ one of 20, ) one of 01, ] one of 21; ? is another one.
func drawn(p *plane.Plane) string {
	var out strings.Builder
	for at := range p.Len() {
		c := p.At(at)
		// How it looks isn't drawn.
		c.Light, c.Color = 0, 0
		out.WriteByte(drawnCell(c))
	}
	return out.String()
}

func drawnCell(c api.Cell) byte {
	for _, sign := range []byte(".ABCDEFGHIabcdefghi([)]") {
		if cellOf(sign) == c {
			return sign
		}
	}
	return '?'
}

// cellOf is the cell that a sign stands for.
func cellOf(sign byte) api.Cell {
	switch {
	case sign == '(':
		return api.Cell{Start: true}
	case sign == '[':
		return api.Cell{Start: true, Byte: 0x20}
	case sign == ')':
		return api.Cell{Start: true, Byte: 0x01}
	case sign == ']':
		return api.Cell{Start: true, Byte: 0x21}
	case sign >= 'A' && sign <= 'I':
		return api.Cell{Byte: sign - 'A' + 0xC1}
	case sign >= 'a' && sign <= 'i':
		return api.Cell{Byte: sign - 'a' + 0xC1, GE: true}
	}
	return api.Cell{}
}

// laid is a plane of one row, as it is drawn.
func laid(t *testing.T, drawing string) *plane.Plane {
	t.Helper()
	p := sized(t, api.Size{Rows: 1, Cols: len(drawing)})
	for at := range drawing {
		p.Set(at, cellOf(drawing[at]))
	}
	return p
}

// Orders, written short.
var (
	pt = api.Order{Kind: api.OrderPT}
	ic = api.Order{Kind: api.OrderIC}
)

func data(bs ...byte) api.Order { return api.Order{Kind: api.OrderData, Data: bs} }
func ge(b byte) api.Order       { return api.Order{Kind: api.OrderGE, Byte: b} }
func sf(b byte) api.Order       { return api.Order{Kind: api.OrderSF, Byte: b} }
func sba(at int) api.Order      { return api.Order{Kind: api.OrderSBA, Addr: at} }
func eua(at int) api.Order      { return api.Order{Kind: api.OrderEUA, Addr: at} }
func ra(at int, b byte) api.Order {
	return api.Order{Kind: api.OrderRA, Addr: at, Byte: b}
}
func rage(at int, b byte) api.Order {
	return api.Order{Kind: api.OrderRA, Addr: at, Byte: b, GE: true}
}

// dress is an order of a kind with pairs, each two bytes.
func dress(kind byte, pairs ...byte) api.Order {
	o := api.Order{Kind: kind}
	for i := 0; i+1 < len(pairs); i += 2 {
		o.Pairs = append(o.Pairs, api.Pair{Type: pairs[i], Value: pairs[i+1]})
	}
	return o
}

func sa(pairs ...byte) api.Order  { return dress(api.OrderSA, pairs...) }
func sfe(pairs ...byte) api.Order { return dress(api.OrderSFE, pairs...) }
func mf(pairs ...byte) api.Order  { return dress(api.OrderMF, pairs...) }
