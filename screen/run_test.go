package screen

import (
	"math/rand"
	"slices"
	"testing"

	"greenscreen/api"
	"greenscreen/command"
	"greenscreen/order"
	"greenscreen/plane"
)

func TestExample(t *testing.T) { // P18.1
	for _, before := range []string{"......", ")A(B]C", "ABCDEFGH"} {
		s := laid(t, before, 2)
		was := s.Plane()
		if got := s.Run([]byte{0xF5, 0xC3, 0x11, 0x40, 0x43, 0xC1}); got != restored {
			t.Errorf("%v", got)
		}
		if drawn(s.Plane()) != "...A.." || s.Plane() == was || s.Plane().Cursor() != 0 {
			t.Errorf("%q", drawn(s.Plane()))
		}
	}
}

// wantUnturned runs bytes that are no command, on screens of either size.
func wantUnturned(t *testing.T, b []byte, want api.Errno) {
	t.Helper()
	for _, before := range []string{")A(B]C", ")A(B]CDE"} {
		s := laid(t, before, 3)
		was := s.Plane()
		if got := s.Run(b); got != failed(want) {
			t.Errorf("%x: %v, not %d", b, got, want)
		}
		if s.Plane() != was || drawn(was) != before || was.Cursor() != 3 || s.Other() != (len(before) == 8) {
			t.Errorf("%x: %q, the cursor at %d", b, drawn(s.Plane()), s.Plane().Cursor())
		}
	}
}

func TestRunOfNoCommand(t *testing.T) { // P18.1: nothing is turned
	wantUnturned(t, nil, api.ErrCommand)
	wantUnturned(t, []byte{}, api.ErrCommand)
	forms := []byte{0x01, 0x05, 0x0D, 0x0F, 0x02, 0x06, 0x0E, 0x11}
	for b := range 256 {
		if slices.Contains(commands, byte(b)) || slices.Contains(forms, byte(b)) {
			continue
		}
		wantUnturned(t, []byte{byte(b)}, api.ErrCommand)
		wantUnturned(t, []byte{byte(b), 0xC3, 0x11, 0x40, 0x40, 0xC1}, api.ErrCommand)
	}
	for _, b := range []byte{0xF1, 0x01, 0xF5, 0x05, 0x7E, 0x0D} {
		wantUnturned(t, []byte{b}, api.ErrShort)
	}
}

func TestRunEachForm(t *testing.T) { // P18.1: both forms of a command do the same
	for _, d := range []struct {
		forms  [2]byte
		behind []byte
		after  string
		at     int
		want   Result
	}{
		{[2]byte{0xF1, 0x01}, []byte{0xC3, 0xC4}, "(A(D[C", 3, restored},
		{[2]byte{0xF1, 0x01}, []byte{0x00}, ")A(B]C", 3, nothing},
		{[2]byte{0xF5, 0x05}, []byte{0xC4, 0xC4}, "D.....", 0, alarmed},
		{[2]byte{0xF5, 0x05}, []byte{0x02}, "......", 0, restored},
		{[2]byte{0x7E, 0x0D}, []byte{0xC6, 0x11, 0x40, 0xC7, 0x13, 0xC4}, ".......D", 7, both},
		{[2]byte{0x6F, 0x0F}, nil, "(.(.]C", 1, restored},
		{[2]byte{0x6F, 0x0F}, []byte{0xC7, 0x1D}, "(.(.]C", 1, restored},
		{[2]byte{0xF2, 0x02}, nil, ")A(B]C", 3, replies(0xF2)},
		{[2]byte{0xF6, 0x06}, []byte{1}, ")A(B]C", 3, replies(0xF6)},
		{[2]byte{0x6E, 0x0E}, nil, ")A(B]C", 3, replies(0x6E)},
		{[2]byte{0xF3, 0x11}, nil, ")A(B]C", 3, nothing},
		{[2]byte{0xF3, 0x11}, []byte{0, 5, 1, 0xFF, 2}, ")A(B]C", 3, replies(2)},
		{[2]byte{0xF3, 0x11}, []byte{0, 4, 3, 0x80, 0, 8, 0x40, 0, 0x01, 0xC2, 0xC4, 0xC5}, "DE......", 0, restored},
		{[2]byte{0xF3, 0x11}, []byte{0, 5, 0x40, 0, 0x0F, 0, 0, 1, 0, 0x6E}, "(.(.]C", 1, Result{Reply: 0x6E, Restore: true}},
		{[2]byte{0xF3, 0x11}, []byte{0, 5, 0x40, 0, 0x6F, 0, 5, 1, 0, 0x77}, "(.(.]C", 1, failed(api.ErrStruct)},
		{[2]byte{0xF3, 0x11}, []byte{0, 9, 0x40, 0, 0xF1, 0xC3, 0xC4, 0x11, 0x40, 0, 4, 3, 0}, "(A(D[C", 3, failed(api.ErrShort)},
	} {
		for _, form := range d.forms {
			s := laid(t, ")A(B]C", 3)
			b := append([]byte{form}, d.behind...)
			got := s.Run(b)
			if got != d.want || drawn(s.Plane()) != d.after || s.Plane().Cursor() != d.at {
				t.Errorf("%x: %v %q %d, not %v %q %d", b, got, drawn(s.Plane()), s.Plane().Cursor(), d.want, d.after, d.at)
			}
		}
	}
}

// piece is an order's bytes, or a byte of data.
type piece struct {
	b     []byte
	after string
}

// pieces are what stands behind a WCC, one by one, and how six cells are behind each of them.
var pieces = []piece{
	{[]byte{0xC1}, "A....."},
	{[]byte{0xC2}, "AB...."},
	{[]byte{0x11, 0x40, 0x43}, "AB...."},
	{[]byte{0x1D, 0x21}, "AB.].."},
	{[]byte{0x08, 0xC3}, "AB.]c."},
	{[]byte{0x29, 0x02, 0xC0, 0x20, 0x42, 0xF2}, "AB.]c["},
	{[]byte{0x28, 0x41, 0xF2}, "AB.]c["},
	{[]byte{0x3C, 0x40, 0xC2, 0xC4}, "DD.]c["},
	{[]byte{0xC5}, "DDE]c["},
	{[]byte{0x2C, 0x01, 0xC0, 0x60}, "DDE[c["},
	{[]byte{0x13}, "DDE[c["},
	{[]byte{0x3C, 0x40, 0xC5, 0x08, 0xC6}, "DDE[f["},
	{[]byte{0x2C, 0x01, 0xC0, 0x40}, "DDE[f("},
	{[]byte{0x12, 0x40, 0xC4}, "...[f("},
	{[]byte{0x05}, "...[f("},
	{[]byte{0xC7}, "G..[f("},
}

func TestRunBrokenAtEachPlace(t *testing.T) { // P18.2 and P12.3: the orders ahead of the break are done
	for _, before := range []string{"......", ")A(B]C", "ABCDEFGH"} {
		b, after := []byte{0xF5, 0xC3}, "......"
		for _, x := range pieces {
			for cut := range len(x.b) {
				wantRun(t, before, slices.Concat(b, x.b[:cut]), after, cut > 0)
			}
			b, after = append(b, x.b...), x.after
		}
		wantRun(t, before, b, after, false)
	}
}

// wantRun runs a record, of EW, that may break off.
func wantRun(t *testing.T, before string, b []byte, after string, broken bool) {
	t.Helper()
	s, want := laid(t, before, 2), restored
	if broken {
		want = failed(api.ErrShort)
	}
	if got := s.Run(b); got != want || drawn(s.Plane()) != after {
		t.Errorf("%x on %q: %v %q, not %v %q", b, before, got, drawn(s.Plane()), want, after)
	}
}

func TestRunBrokenByWhatIsNone(t *testing.T) { // P18.2 and P12.3: nothing behind the error is done, even if it were fine alone
	bad := []struct {
		b []byte
		e api.Errno
	}{
		{[]byte{0x01}, api.ErrOrder}, {[]byte{0x08, 0x00}, api.ErrOrder}, {[]byte{0x28, 0x99, 0x00}, api.ErrAttr},
		{[]byte{0x2C, 0x00}, api.ErrOrder}, {[]byte{0x11, 0x40, 0xC6}, api.ErrAddress}, {[]byte{0x12, 0x40, 0xC6}, api.ErrAddress}, {[]byte{0x3C, 0x40, 0xC6, 0xC9}, api.ErrAddress},
	}
	for _, x := range bad {
		b, after := []byte{0xF5, 0xC3}, "......"
		// Behind these the place is an attribute's, where MF is done.
		for _, p := range pieces[:9] {
			s := laid(t, ")A(B]C", 2)
			all := slices.Concat(b, x.b, []byte{0xC9, 0x13, 0x11, 0x40, 0x40, 0xC9})
			if got := s.Run(all); got != failed(x.e) || drawn(s.Plane()) != after {
				t.Errorf("%x: %v %q, not %d %q", all, got, drawn(s.Plane()), x.e, after)
			}
			b, after = append(b, p.b...), p.after
		}
	}
}

func TestRunBrokenFields(t *testing.T) { // P18.2: the fields ahead of the break are done
	whole := []byte{0xF3, 0, 4, 3, 0x80, 0, 8, 0x40, 0, 0xF1, 0xC6, 0xC1, 0xC2, 0, 5, 1, 0xFF, 2, 0, 5, 0x40, 0, 0x6F, 0, 9, 0x40, 0, 0xF5, 0xC2, 0xC3, 0x13, 0xC4}
	for cut := 1; cut <= len(whole); cut++ {
		want, after := failed(api.ErrStruct), ")A(B]C"
		switch {
		case cut == len(whole):
			want, after = Result{Reply: 2, Restore: true, Alarm: true}, "CD...."
		case cut >= 23:
			after = "........"
		case cut >= 13:
			after = "AB......"
		case cut >= 5:
			after = "........"
		}
		switch cut {
		case 1, 5:
			want = nothing
		case 13:
			want = both
		case 18, 23:
			want = Result{Reply: 2, Restore: true, Alarm: true}
		}
		s := laid(t, ")A(B]C", 3)
		if got := s.Run(whole[:cut]); got != want || drawn(s.Plane()) != after {
			t.Errorf("%x: %v %q, not %v %q", whole[:cut], got, drawn(s.Plane()), want, after)
		}
	}
}

// someBytes is a record of a command that has orders, mostly ones that can be parsed.
func someBytes(r *rand.Rand, kind byte, many int) []byte {
	b := []byte{kind, byte(r.Intn(256))}
	for range r.Intn(12) {
		at := r.Intn(many)
		place := []byte{byte(at / 256), byte(at % 256)}
		switch r.Intn(12) {
		case 0:
			b = append(append(b, 0x11), place...)
		case 1:
			b = append(append(b, 0x12), place...)
		case 2:
			b = append(append(append(b, 0x3C), place...), byte(0x40+r.Intn(192)))
		case 3:
			b = append(b, 0x1D, byte(r.Intn(256)))
		case 4:
			b = append(b, 0x29, 1, 0xC0, byte(r.Intn(64)))
		case 5:
			b = append(b, 0x28, 0x42, 0xF1)
		case 6:
			b = append(b, 0x13)
		case 7:
			b = append(b, 0x05)
		case 8:
			b = append(b, 0x08, byte(0x40+r.Intn(192)))
		default:
			b = append(b, byte(0x40+r.Intn(192)))
		}
		if r.Intn(25) == 0 {
			b = append(b, byte(r.Intn(256)))
		}
	}
	return b
}

func TestRunIsDo(t *testing.T) { // P18.1: of any bytes
	eachScreen(t, func(r *rand.Rand, s *Screen, plain, other api.Size) {
		b := someBytes(r, []byte{0xF1, 0xF5, 0x7E, byte(r.Intn(256))}[r.Intn(4)], 9)
		was := slices.Clone(b)
		want := formOf(s, plain, other)
		got := s.Run(b[:len(b):len(b)])
		if !slices.Equal(b, was) {
			t.Fatalf("%x: the bytes were turned", was)
		}
		for i := range b {
			b[i] = 0xEE
		}
		wanted := Result{}
		if c, e := command.Parse(was); e != api.OK {
			wanted.Err = e
		} else {
			wanted = want.do(c)
		}
		if got != wanted {
			t.Fatalf("%x: %v, not %v", was, got, wanted)
		}
		wantForm(t, s, want, "run")
	})
}

func TestBrokenIsAsUpToTheBreak(t *testing.T) { // P18.2 and P12.3
	broken := 0
	eachScreen(t, func(r *rand.Rand, s *Screen, plain, other api.Size) {
		b := someBytes(r, []byte{0xF1, 0xF5, 0x7E}[r.Intn(3)], s.Plane().Len())
		b = b[:2+r.Intn(len(b)-1)]
		_, read, e := order.Parse(b[2:])
		a, c := s.Clone(), s.Clone()
		got, upTo := a.Run(b), c.Run(b[:2+read])
		wantPlane(t, a.Plane(), c.Plane(), "broken")
		if a.Other() != c.Other() || upTo.Err != api.OK && got != upTo {
			t.Fatalf("%x: %v, not %v", b, got, upTo)
		}
		if upTo.Err == api.OK && e != api.OK && got != failed(e) {
			t.Fatalf("%x: %v, not %d", b, got, e)
		}
		if e != api.OK {
			broken++
		}
	})
	if broken < 200 {
		t.Errorf("only %d were broken", broken)
	}
}

func TestEraseIsTheSame(t *testing.T) { // P18.2: of the same orders, whatever was there
	eachScreen(t, func(r *rand.Rand, s *Screen, plain, other api.Size) {
		for _, kind := range []byte{0xF5, 0x7E, 0x05, 0x0D} {
			b := someBytes(r, kind, 9)
			fresh, was := sized(t, plain, other), s.Clone()
			if got, want := was.Run(b), fresh.Run(b); got != want || was.Other() != fresh.Other() {
				t.Fatalf("%x: %v, not %v", b, got, want)
			}
			wantPlane(t, was.Plane(), fresh.Plane(), "erased")
		}
	})
}

// drawable lays cells on a plane that bytes can lay there: GE of bytes from 40 on, looks that may be, attributes of six bits.
func drawable(r *rand.Rand, p *plane.Plane) {
	for at := range p.Len() {
		c := api.Cell{Byte: byte(0x40 + r.Intn(192)), GE: r.Intn(4) == 0}
		if r.Intn(3) == 0 {
			c.Light = []byte{0, 0xF0, 0xF1, 0xF2, 0xF4}[r.Intn(5)]
			c.Color = []byte{0, 0xF1, 0xF2, 0xF7}[r.Intn(4)]
		}
		if r.Intn(5) == 0 {
			c.GE, c.Start, c.Byte = false, true, byte(r.Intn(64))
		}
		if r.Intn(5) == 0 {
			c = api.Cell{}
		}
		p.Set(at, c)
	}
	p.Point(r.Intn(p.Len()))
}

// drawing is orders that draw a plane, which stays as it is ahead of them where the cell is zero: now and then they go there.
func drawing(r *rand.Rand, p *plane.Plane) []api.Order {
	var out []api.Order
	look, at := api.Cell{}, 0
	for to := range p.Len() {
		c := p.At(to)
		if c == (api.Cell{}) && r.Intn(2) == 0 {
			continue
		}
		if at != to {
			out = append(out, sba(to))
		}
		if !c.Start {
			out = append(out, dress(&look, c)...)
		}
		out = append(out, laying(c))
		at = to + 1
	}
	return append(out, sba(p.Cursor()), ic)
}

// dress is the SAs that turn a look into a cell's.
func dress(look *api.Cell, c api.Cell) []api.Order {
	var out []api.Order
	if look.Light != c.Light {
		out = append(out, api.Order{Kind: api.OrderSA, Pairs: []api.Pair{{Type: 0x41, Value: c.Light}}})
	}
	if look.Color != c.Color {
		out = append(out, api.Order{Kind: api.OrderSA, Pairs: []api.Pair{{Type: 0x42, Value: c.Color}}})
	}
	*look = c
	return out
}

// laying is the order that lays a cell, with the look it has.
func laying(c api.Cell) api.Order {
	switch {
	case c.Start:
		return api.Order{Kind: api.OrderSFE, Pairs: []api.Pair{{Type: 0xC0, Value: c.Byte}, {Type: 0x41, Value: c.Light}, {Type: 0x42, Value: c.Color}}}
	case c.GE:
		return api.Order{Kind: api.OrderGE, Byte: c.Byte}
	}
	return data(c.Byte)
}

func TestDrawnByBytes(t *testing.T) { // P18.2, P16.1 and P12.2: orders that draw a plane, written as bytes of an erasing write and run, make the same one, whatever was there
	r := rand.New(rand.NewSource(71))
	for i, plain := range append(slices.Clone(sizes), great...) {
		other := great[i%len(great)]
		for range 40 {
			p, _ := plane.New([]api.Size{plain, other}[i%2])
			kind := []byte{api.CmdEW, api.CmdEWA}[i%2]
			drawable(r, p)
			b, e := command.Write(command.Command{Kind: kind, WCC: 2, Orders: drawing(r, p)}, p.Len())
			if e != api.OK {
				t.Fatalf("%v: %d", p.Size(), e)
			}
			s := sized(t, plain, other)
			if r.Intn(2) == 0 {
				s.Do(only(api.CmdEWA))
			}
			strew(r, s.Plane(), func(int) bool { return r.Intn(4) == 0 })
			if got := s.Run(b); got != restored || s.Other() != (kind == api.CmdEWA) {
				t.Fatalf("%x: %v", b, got)
			}
			wantPlane(t, s.Plane(), p, "drawn")
		}
	}
}

// someWritten is an order that can be written, to places of nine cells.
func someWritten(r *rand.Rand) api.Order {
	pairs := []api.Pair{{Type: 0xC0, Value: byte(r.Intn(64))}, {Type: 0x42, Value: 0xF2}, {Type: 0x41, Value: 0xF1}}
	switch r.Intn(12) {
	case 0:
		return sba(r.Intn(9))
	case 1:
		return eua(r.Intn(9))
	case 2:
		return ra(r.Intn(9), byte(0x40+r.Intn(192)))
	case 3:
		return sf(byte(r.Intn(64)))
	case 4:
		return api.Order{Kind: api.OrderGE, Byte: byte(0x40 + r.Intn(192))}
	case 5:
		return api.Order{Kind: api.OrderSA, Pairs: pairs[1+r.Intn(2):][:1]}
	case 6:
		return api.Order{Kind: api.OrderSFE, Pairs: pairs[:r.Intn(4)]}
	case 7:
		return api.Order{Kind: api.OrderMF, Pairs: pairs[:r.Intn(4)]}
	case 8:
		return ic
	case 9:
		return pt
	}
	// Data without bytes is none of the bytes, and PT asks for what stands just ahead of it.
	return data([]byte{byte(0x40 + r.Intn(192)), 0, 0x3F}[:1+r.Intn(3)]...)
}

// someWhole is a command that can be written.
func someWhole(r *rand.Rand, of []byte) command.Command {
	c := only(of[r.Intn(len(of))])
	switch c.Kind {
	case api.CmdW, api.CmdEW, api.CmdEWA:
		c.WCC = byte(r.Intn(256))
		for range r.Intn(8) {
			c.Orders = append(c.Orders, someWritten(r))
		}
	case api.CmdWSF:
		for range r.Intn(5) {
			inner := someWhole(r, []byte{api.CmdW, api.CmdW, api.CmdEW, api.CmdEWA, api.CmdEAU})
			c.Fields = append(c.Fields, []command.Field{read(2), read(0xF6), reset(0), reset(0x80), within(inner), within(inner)}[r.Intn(6)])
		}
	}
	return c
}

func TestWrittenIsRunAsDone(t *testing.T) { // P18.1 and P12.2: a command does the same as its bytes
	eachScreen(t, func(r *rand.Rand, s *Screen, plain, other api.Size) {
		for range 4 {
			c := someWhole(r, commands)
			b, e := command.Write(c, 9)
			if e != api.OK {
				t.Fatalf("%v: %d", c, e)
			}
			a := s.Clone()
			if got, want := s.Run(b), a.Do(c); got != want || s.Other() != a.Other() {
				t.Fatalf("%x on %q: %v, not %v", b, drawn(a.Plane()), got, want)
			}
			wantPlane(t, s.Plane(), a.Plane(), "run")
		}
	})
}
