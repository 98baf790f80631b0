package screen

import (
	"math/rand"
	"slices"
	"strings"
	"testing"

	"greenscreen/api"
	"greenscreen/command"
	"greenscreen/field"
	"greenscreen/paint"
	"greenscreen/plane"
	"greenscreen/wipe"
)

// form is a screen as the chapter has it, each write within a write by a call within a call. What a plane is turned to is the lower layers' affair, which have tests of their own.
type form struct {
	plain, other api.Size
	isOther      bool
	plane        *plane.Plane
}

// formOf is what a screen is, whose sizes are these.
func formOf(s *Screen, plain, other api.Size) *form {
	return &form{plain, other, s.Other(), s.Plane().Clone()}
}

// anew lets the plane be a new one.
func (f *form) anew(isOther bool) {
	size := f.plain
	if isOther {
		size = f.other
	}
	f.isOther = isOther
	f.plane, _ = plane.New(size)
}

// do does a command.
func (f *form) do(c command.Command) Result {
	r := f.whole(c)
	if r.Err != api.OK {
		return Result{Err: r.Err}
	}
	return r
}

// whole does a command; with an error there may stand more in it.
func (f *form) whole(c command.Command) Result {
	switch c.Kind {
	case 0xF1:
		return f.orders(c, f.plane.Cursor())
	case 0xF5:
		f.anew(false)
		return f.orders(c, 0)
	case 0x7E:
		f.anew(true)
		return f.orders(c, 0)
	case 0x6F:
		wipe.Open(f.plane)
		return Result{Restore: true}
	case 0xF2, 0xF6, 0x6E:
		return Result{Reply: c.Kind}
	case 0xF3:
		return f.fields(c)
	}
	return Result{Err: api.ErrCommand}
}

// orders does what stands behind W, EW and EWA.
func (f *form) orders(c command.Command, from int) Result {
	if c.WCC%2 == 1 {
		field.Unmark(f.plane)
	}
	if _, _, e := paint.Paint(f.plane, c.Orders, from); e != api.OK {
		return Result{Err: e}
	}
	return Result{Restore: c.WCC/2%2 == 1, Alarm: c.WCC/4%2 == 1, Err: c.Err}
}

// fields does what stands behind WSF.
func (f *form) fields(c command.Command) Result {
	var out Result
	for _, x := range c.Fields {
		switch x.ID {
		case 0x01:
			if out.Reply == 0 {
				out.Reply = x.Op
			}
		case 0x03:
			f.anew(x.Op != 0)
		default:
			in := f.do(x.Inner)
			out.Restore = out.Restore || in.Restore
			out.Alarm = out.Alarm || in.Alarm
			if in.Err != api.OK {
				return in
			}
		}
	}
	out.Err = c.Err
	return out
}

// wantForm tells what of a screen isn't as said.
func wantForm(t *testing.T, s *Screen, want *form, what string) {
	t.Helper()
	if s.Other() != want.isOther {
		t.Fatalf("%s: Other is %v", what, s.Other())
	}
	wantPlane(t, s.Plane(), want.plane, what)
}

// wantPlane tells what of a plane isn't as said.
func wantPlane(t *testing.T, got, want *plane.Plane, what string) {
	t.Helper()
	if got.Size() != want.Size() || got.Len() != want.Len() || got.Cursor() != want.Cursor() {
		t.Fatalf("%s: %v, %d cells, the cursor at %d, not %v, %d, %d", what, got.Size(), got.Len(), got.Cursor(), want.Size(), want.Len(), want.Cursor())
	}
	for at := range want.Len() {
		if got.At(at) != want.At(at) {
			t.Fatalf("%s: the cell at %d is %v, not %v", what, at, got.At(at), want.At(at))
		}
	}
}

// hold does a command on a screen whose sizes are these, and on its form, and tells where they differ.
func hold(t *testing.T, s *Screen, plain, other api.Size, c command.Command) Result {
	t.Helper()
	want := formOf(s, plain, other)
	was := s.Plane()
	got, wanted := s.Do(c), want.do(c)
	if got != wanted {
		t.Fatalf("%q, %v: %v, not %v", drawn(was), c, got, wanted)
	}
	wantForm(t, s, want, "done")
	return got
}

// sizes are planes of one cell to nine.
var sizes = []api.Size{
	{Rows: 1, Cols: 1}, {Rows: 1, Cols: 2}, {Rows: 3, Cols: 1}, {Rows: 2, Cols: 2}, {Rows: 1, Cols: 5}, {Rows: 2, Cols: 3}, {Rows: 7, Cols: 1}, {Rows: 4, Cols: 2}, {Rows: 3, Cols: 3},
}

// great are sizes of screens as they are.
var great = []api.Size{{Rows: 24, Cols: 80}, {Rows: 43, Cols: 95}, {Rows: 32, Cols: 128}}

// commands are all kinds that there are.
var commands = []byte{0xF1, 0xF5, 0x7E, 0x6F, 0xF2, 0xF6, 0x6E, 0xF3}

// kinds are all kinds of orders that there are.
var kinds = []byte{0x00, 0x05, 0x08, 0x11, 0x12, 0x13, 0x1D, 0x28, 0x29, 0x2C, 0x3C}

// sized is a screen of these sizes.
func sized(t *testing.T, plain, other api.Size) *Screen {
	t.Helper()
	s, e := New(plain, other)
	if e != api.OK || s == nil {
		t.Fatalf("%v and %v: %d", plain, other, e)
	}
	return s
}

// strew lays any cells on a plane, attributes at these places alone, and the cursor somewhere.
func strew(r *rand.Rand, p *plane.Plane, isStart func(at int) bool) {
	for at := range p.Len() {
		p.Set(at, api.Cell{Byte: byte(r.Intn(256)), GE: r.Intn(3) == 0, Start: isStart(at), Light: byte(r.Intn(256)), Color: byte(r.Intn(256))})
	}
	p.Point(r.Intn(p.Len()))
}

// eachScreen tries screens of up to nine cells, with attributes at each choice of their places, now of the plain size and now of the other one.
func eachScreen(t *testing.T, try func(r *rand.Rand, s *Screen, plain, other api.Size)) {
	t.Helper()
	r := rand.New(rand.NewSource(61))
	for i, plain := range sizes {
		other := sizes[(i+4)%len(sizes)]
		for _, isOther := range []bool{false, true} {
			s := sized(t, plain, other)
			if isOther {
				s.Do(command.Command{Kind: api.CmdEWA})
			}
			for choice := range 1 << s.Plane().Len() {
				c := s.Clone()
				strew(r, c.Plane(), func(at int) bool { return choice>>at&1 == 1 })
				try(r, c, plain, other)
			}
		}
	}
}

// somePair is any, mostly one that is known.
func somePair(r *rand.Rand) api.Pair {
	return api.Pair{Type: []byte{0xC0, 0x41, 0x42, 0, byte(r.Intn(256))}[r.Intn(5)], Value: byte(r.Intn(256))}
}

// someOrder is any, for planes of so many cells: one in many can't be done.
func someOrder(r *rand.Rand, many int) api.Order {
	o := api.Order{Kind: kinds[r.Intn(len(kinds))], Byte: byte(r.Intn(256))}
	switch o.Kind {
	case api.OrderData:
		o.Data = make([]byte, r.Intn(4))
		for i := range o.Data {
			o.Data[i] = byte(r.Intn(256))
		}
	case api.OrderSBA, api.OrderRA, api.OrderEUA:
		o.Addr = r.Intn(many)
		if r.Intn(20) == 0 {
			o.Addr = []int{-1, many, many + 1, -many, 1 << 40}[r.Intn(5)]
		}
	case api.OrderSA, api.OrderSFE, api.OrderMF:
		for range r.Intn(3) {
			o.Pairs = append(o.Pairs, somePair(r))
		}
	}
	if r.Intn(40) == 0 {
		o.Kind = byte(r.Intn(256))
	}
	return o
}

// someErr is an error now and then.
func someErr(r *rand.Rand) api.Errno {
	return []api.Errno{0, 0, 0, 0, 0, 0, 0, api.ErrShort, api.ErrOrder, api.ErrStruct}[r.Intn(10)]
}

// someCommand is any command for planes of so many cells, with fields within fields so deep at most. What doesn't belong to its kind may stand in it, too.
func someCommand(r *rand.Rand, many, deep int) command.Command {
	c := command.Command{Kind: commands[r.Intn(len(commands))], WCC: byte(r.Intn(256)), Err: someErr(r)}
	if r.Intn(30) == 0 {
		c.Kind = byte(r.Intn(256))
	}
	for range r.Intn(6) {
		c.Orders = append(c.Orders, someOrder(r, many))
	}
	if deep == 0 {
		return c
	}
	for range r.Intn(4) {
		f := command.Field{ID: []byte{1, 3, 0x40, 0x40, byte(r.Intn(256))}[r.Intn(5)], Op: []byte{0, 0x80, 2, 0xF2, 0xF6, 0x6E, byte(r.Intn(256))}[r.Intn(7)]}
		f.Inner = someCommand(r, many, deep-1)
		c.Fields = append(c.Fields, f)
	}
	return c
}

// own is a command with memory of its own.
func own(c command.Command) command.Command {
	c.Orders = slices.Clone(c.Orders)
	for i := range c.Orders {
		c.Orders[i].Data = slices.Clone(c.Orders[i].Data)
		c.Orders[i].Pairs = slices.Clone(c.Orders[i].Pairs)
	}
	c.Fields = slices.Clone(c.Fields)
	for i := range c.Fields {
		c.Fields[i].Inner = own(c.Fields[i].Inner)
	}
	return c
}

// drawn is a plane, one sign a cell: . is the zero cell, A to I are C1 to C9, a to i the same of GE, ( an attribute 00, [ one of 20, ) one of 01, ] one of 21; ? is another one. How it looks isn't drawn.
func drawn(p *plane.Plane) string {
	var out strings.Builder
	for at := range p.Len() {
		c := p.At(at)
		c.Light, c.Color = 0, 0
		sign := byte('?')
		for _, of := range []byte(".ABCDEFGHIabcdefghi([)]") {
			if cellOf(of) == c {
				sign = of
			}
		}
		out.WriteByte(sign)
	}
	return out.String()
}

// cellOf is the cell that a sign stands for.
func cellOf(sign byte) api.Cell {
	switch {
	case sign == '(':
		return api.Cell{Start: true}
	case sign == '[':
		return api.Cell{Start: true, Byte: 0x20}
	case sign == ')':
		return api.Cell{Start: true, Byte: 0x01}
	case sign == ']':
		return api.Cell{Start: true, Byte: 0x21}
	case sign >= 'A' && sign <= 'I':
		return api.Cell{Byte: sign - 'A' + 0xC1}
	case sign >= 'a' && sign <= 'i':
		return api.Cell{Byte: sign - 'a' + 0xC1, GE: true}
	}
	return api.Cell{}
}

// Both sizes of what is drawn: six cells, and eight.
var (
	six   = api.Size{Rows: 1, Cols: 6}
	eight = api.Size{Rows: 2, Cols: 4}
)

// laid is a screen of six cells or eight, as it is drawn, with the cursor at a place.
func laid(t *testing.T, drawing string, cursor int) *Screen {
	t.Helper()
	s := sized(t, six, eight)
	if len(drawing) == 8 {
		s.Do(command.Command{Kind: api.CmdEWA})
	}
	if s.Plane().Len() != len(drawing) {
		t.Fatalf("%q: %d cells", drawing, s.Plane().Len())
	}
	for at := range drawing {
		s.Plane().Set(at, cellOf(drawing[at]))
	}
	s.Plane().Point(cursor)
	return s
}

// Orders, written short.
var (
	pt   = api.Order{Kind: api.OrderPT}
	ic   = api.Order{Kind: api.OrderIC}
	mf   = api.Order{Kind: api.OrderMF}
	none = api.Order{Kind: 0xFF}
)

func data(bs ...byte) api.Order { return api.Order{Kind: api.OrderData, Data: bs} }
func sf(b byte) api.Order       { return api.Order{Kind: api.OrderSF, Byte: b} }
func sba(at int) api.Order      { return api.Order{Kind: api.OrderSBA, Addr: at} }
func eua(at int) api.Order      { return api.Order{Kind: api.OrderEUA, Addr: at} }
func ra(at int, b byte) api.Order {
	return api.Order{Kind: api.OrderRA, Addr: at, Byte: b}
}

// Commands, written short.
func write(kind, wcc byte, os ...api.Order) command.Command {
	return command.Command{Kind: kind, WCC: wcc, Orders: os}
}

func only(kind byte) command.Command { return command.Command{Kind: kind} }

func behind(c command.Command, e api.Errno) command.Command {
	c.Err = e
	return c
}

func wsf(fs ...command.Field) command.Command {
	return command.Command{Kind: api.CmdWSF, Fields: fs}
}

// Fields, written short.
func read(op byte) command.Field  { return command.Field{ID: 0x01, Op: op} }
func reset(op byte) command.Field { return command.Field{ID: 0x03, Op: op} }
func within(c command.Command) command.Field {
	return command.Field{ID: 0x40, Inner: c}
}
