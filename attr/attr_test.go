package attr

import (
	"math/rand"
	"slices"
	"strings"
	"testing"

	"greenscreen/addr"
	"greenscreen/api"
)

// kinds is every kind of order.
var kinds = []byte{
	api.OrderData, api.OrderPT, api.OrderGE, api.OrderSBA, api.OrderEUA, api.OrderIC,
	api.OrderSF, api.OrderSA, api.OrderSFE, api.OrderMF, api.OrderRA,
}

func TestExample(t *testing.T) { // P11.1
	if !Protected(0xF0) || !Numeric(0xF0) || Text(0xF0) != "PN-" {
		t.Fatalf("F0 is %q", Text(0xF0))
	}
}

func TestEveryAttribute(t *testing.T) { // P11.1: put together from what it says; the two highest bits don't count
	seen := map[string]bool{}
	for high := range 4 {
		for low := range 64 {
			isP, isN, shown, isM := low >= 32, low%32 >= 16, low%16/4, low%2 == 1
			b := byte(high*64 + low)
			if Protected(b) != isP || Numeric(b) != isN || Skip(b) != (isP && isN) || Shown(b) != shown || Modified(b) != isM {
				t.Fatalf("%02X: %t %t %t %d %t", b, Protected(b), Numeric(b), Skip(b), Shown(b), Modified(b))
			}
			want := ""
			if isP {
				want = "P"
			}
			if isN {
				want += "N"
			}
			want += strings.Split("- + * !", " ")[shown]
			if isM {
				want += "M"
			}
			if Text(b) != want {
				t.Fatalf("Text(%02X) = %q, not %q", b, Text(b), want)
			}
			seen[want] = true
		}
	}
	if len(seen) != 32 { // all but the bit of 2 is told
		t.Fatalf("%d texts", len(seen))
	}
}

func TestTexts(t *testing.T) { // P11.1
	for b, want := range map[byte]string{
		0x00: "-", 0x01: "-M", 0x02: "-", 0x04: "+", 0x08: "*", 0x0C: "!", 0x0D: "!M",
		0x10: "N-", 0x20: "P-", 0x30: "PN-", 0x3D: "PN!M", 0x40: "-", 0x80: "-", 0xFF: "PN!M", 0xC1: "-M", 0xE8: "P*",
	} {
		if Text(b) != want {
			t.Fatalf("Text(%02X) = %q, not %q", b, Text(b), want)
		}
	}
}

func TestModify(t *testing.T) { // P11.2: that bit is turned, and no other
	for i := range 256 {
		b := byte(i)
		on, off := Modify(b, true), Modify(b, false)
		if !Modified(on) || Modified(off) {
			t.Fatalf("Modify(%02X) = %02X, %02X", b, on, off)
		}
		if on/2 != b/2 || off/2 != b/2 {
			t.Fatalf("Modify(%02X) = %02X, %02X: more is turned", b, on, off)
		}
		if Modify(b, Modified(b)) != b || Modify(on, false) != off || Modify(off, true) != on {
			t.Fatalf("Modify(%02X) there and back", b)
		}
	}
}

func TestByte(t *testing.T) { // P11.1 and P11.2: layer 2's digit of the lowest six bits, which stands for the same attribute
	for i := range 256 {
		b := byte(i)
		if Byte(b) != addr.Digit(i%64) || Byte(b) < 0x40 {
			t.Fatalf("Byte(%02X) = %02X", b, Byte(b))
		}
		if !Same(Byte(b), b) || Text(Byte(b)) != Text(b) || Modified(Byte(b)) != Modified(b) || Byte(Byte(b)) != Byte(b) {
			t.Fatalf("Byte(%02X) = %02X isn't the same", b, Byte(b))
		}
	}
	for b, want := range map[byte]byte{0x00: 0x40, 0x01: 0xC1, 0x20: 0x60, 0x21: 0x61, 0x30: 0xF0, 0xF0: 0xF0, 0x3F: 0x7F, 0xFF: 0x7F} {
		if Byte(b) != want {
			t.Fatalf("Byte(%02X) = %02X, not %02X", b, Byte(b), want)
		}
	}
}

func TestSame(t *testing.T) { // P11.1: at all two bytes
	for i := range 256 {
		for j := range 256 {
			if Same(byte(i), byte(j)) != (i%64 == j%64) {
				t.Fatalf("Same(%02X, %02X)", i, j)
			}
		}
	}
}

func TestCheckTable(t *testing.T) { // P11.1: each type, and none, in each kind of order
	const no, ok = api.ErrAttr, api.OK
	for _, c := range []struct {
		p           api.Pair
		sfe, mf, sa api.Errno
	}{
		{api.Pair{Type: 0xC0, Value: 0x30}, ok, ok, no},
		{api.Pair{Type: 0xC0, Value: 0xFF}, ok, ok, no},
		{api.Pair{Type: 0xC0}, ok, ok, no},
		{api.Pair{Type: 0x41, Value: 0xF1}, ok, ok, ok},
		{api.Pair{Type: 0x41}, ok, ok, ok},
		{api.Pair{Type: 0x42, Value: 0xF7}, ok, ok, ok},
		{api.Pair{Type: 0x42, Value: 0xFF}, ok, ok, ok},
		{api.Pair{}, no, no, ok},
		{api.Pair{Value: 1}, no, no, no},
		{api.Pair{Value: 0xFF}, no, no, no},
		{api.Pair{Type: 0x40}, no, no, no},
		{api.Pair{Type: 0x43}, no, no, no},
		{api.Pair{Type: 0x45, Value: 0xF1}, no, no, no},
		{api.Pair{Type: 0xC1}, no, no, no},
		{api.Pair{Type: 0xFF}, no, no, no},
	} {
		for _, kind := range kinds {
			want := no
			switch kind {
			case api.OrderSFE:
				want = c.sfe
			case api.OrderMF:
				want = c.mf
			case api.OrderSA:
				want = c.sa
			}
			if e := Check(kind, c.p); e != want {
				t.Fatalf("Check(%02X, %+v) = %d, not %d", kind, c.p, e, want)
			}
		}
	}
}

func TestCheckAll(t *testing.T) { // P11.1: at all kinds and pairs
	for kind := range 256 {
		for both := range 65536 {
			p := api.Pair{Type: byte(both / 256), Value: byte(both % 256)}
			look := p.Type == 0x41 || p.Type == 0x42
			well := false
			if kind == 0x29 || kind == 0x2C {
				well = look || p.Type == 0xC0
			}
			if kind == 0x28 {
				well = look || both == 0
			}
			if e := Check(byte(kind), p); (e == api.OK) != well || !well && e != api.ErrAttr {
				t.Fatalf("Check(%02X, %+v) = %d", kind, p, e)
			}
		}
	}
}

func TestDressOnePair(t *testing.T) { // P11.1: at all pairs, on cells of every sort
	for _, c := range []api.Cell{
		{}, {Byte: 0xFF, GE: true, Start: true, Light: 0xF4, Color: 0xF7}, {Byte: 0xC1, Light: 1}, {Start: true, Color: 2},
	} {
		if got := Dress(c, nil); got != c {
			t.Fatalf("Dress(%+v, nil) = %+v", c, got)
		}
		if got := Dress(c, []api.Pair{}); got != c {
			t.Fatalf("Dress(%+v, none) = %+v", c, got)
		}
		for both := range 65536 {
			p := api.Pair{Type: byte(both / 256), Value: byte(both % 256)}
			want := c
			switch p.Type {
			case 0xC0:
				want.Byte = p.Value % 64
			case 0x41:
				want.Light = p.Value
			case 0x42:
				want.Color = p.Value
			case 0:
				want.Light, want.Color = 0, 0
			}
			if got := Dress(c, []api.Pair{p}); got != want {
				t.Fatalf("Dress(%+v, %+v) = %+v, not %+v", c, p, got, want)
			}
		}
	}
}

func TestDressTable(t *testing.T) { // P11.1: one after the other, later ones let earlier ones go
	c := api.Cell{Byte: 0x20, Start: true, Light: 9, Color: 8}
	for i, row := range []struct {
		ps   []api.Pair
		want api.Cell
	}{
		{[]api.Pair{{Type: 0xC0, Value: 0xF0}}, api.Cell{Byte: 0x30, Start: true, Light: 9, Color: 8}},
		{[]api.Pair{{Type: 0xC0, Value: 1}, {Type: 0xC0, Value: 2}}, api.Cell{Byte: 2, Start: true, Light: 9, Color: 8}},
		{[]api.Pair{{Type: 0x41, Value: 1}, {Type: 0x42, Value: 2}}, api.Cell{Byte: 0x20, Start: true, Light: 1, Color: 2}},
		{[]api.Pair{{Type: 0x42, Value: 2}, {Type: 0x41, Value: 1}, {Type: 0x42, Value: 3}}, api.Cell{Byte: 0x20, Start: true, Light: 1, Color: 3}},
		{[]api.Pair{{Type: 0x41, Value: 1}, {}}, api.Cell{Byte: 0x20, Start: true}},
		{[]api.Pair{{}, {Type: 0x41, Value: 1}}, api.Cell{Byte: 0x20, Start: true, Light: 1}},
		{[]api.Pair{{Type: 0x42, Value: 1}, {Value: 7}, {Type: 0xC0}}, api.Cell{Start: true}},
		{[]api.Pair{{Type: 0x43, Value: 1}, {Type: 0xFF, Value: 7}, {Type: 1}}, c},
	} {
		if got := Dress(c, row.ps); got != row.want {
			t.Fatalf("row %d: %+v, not %+v", i, got, row.want)
		}
	}
}

// last is the value of the last pair of one of these types, or another one if there is none; a pair of the type 0 counts as the value 0.
func last(ps []api.Pair, other byte, kinds ...byte) byte {
	for i := len(ps) - 1; i >= 0; i-- {
		if slices.Contains(kinds, ps[i].Type) {
			if ps[i].Type == 0 {
				return 0
			}
			return ps[i].Value
		}
	}
	return other
}

func TestDressManyPairs(t *testing.T) { // P11.1: what counts is the last pair of each; the pairs aren't changed
	r := rand.New(rand.NewSource(11))
	types := []byte{0xC0, 0x41, 0x42, 0, 0x43, 0xC1, 0xFF}
	for range 20000 {
		c := api.Cell{Byte: byte(r.Intn(64)), GE: r.Intn(2) == 0, Start: r.Intn(2) == 0, Light: byte(r.Intn(256)), Color: byte(r.Intn(256))}
		ps := make([]api.Pair, r.Intn(8), 12)
		for i := range ps {
			ps[i] = api.Pair{Type: types[r.Intn(len(types))], Value: byte(r.Intn(256))}
		}
		ahead := slices.Clone(ps[:12])
		want := c
		want.Byte = last(ps, c.Byte, 0xC0) % 64
		want.Light = last(ps, c.Light, 0x41, 0)
		want.Color = last(ps, c.Color, 0x42, 0)
		if got := Dress(c, ps); got != want {
			t.Fatalf("Dress(%+v, %v) = %+v, not %+v", c, ps, got, want)
		}
		if !slices.Equal(ps[:12], ahead) {
			t.Fatalf("the pairs %v were changed", ahead)
		}
	}
}
