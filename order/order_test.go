package order

import (
	"fmt"
	"math/rand"
	"slices"
	"strings"
	"testing"

	"greenscreen/api"
)

// plains is the plain bytes below 40.
var plains = []byte{0x00, 0x0C, 0x0D, 0x15, 0x19, 0x1C, 0x1E, 0x3F}

// kinds is every kind of order.
var kinds = []byte{
	api.OrderData, api.OrderPT, api.OrderGE, api.OrderSBA, api.OrderEUA, api.OrderIC,
	api.OrderSF, api.OrderSA, api.OrderSFE, api.OrderMF, api.OrderRA,
}

// unhex is the bytes of a text in sixteens, blanks between them or not.
func unhex(s string) []byte {
	var out []byte
	s = strings.ReplaceAll(s, " ", "")
	for i := 0; i < len(s); i += 2 {
		var b byte
		if _, err := fmt.Sscanf(s[i:i+2], "%02x", &b); err != nil {
			panic(s)
		}
		out = append(out, b)
	}
	return out
}

// texts is orders in words, a comma between them.
func texts(os []api.Order) string {
	var out []string
	for _, o := range os {
		out = append(out, Text(o))
	}
	return strings.Join(out, ", ")
}

// sameAll tells whether two lists have the same orders.
func sameAll(a, b []api.Order) bool { return slices.EqualFunc(a, b, Same) }

// copied is orders that share nothing with those handed in.
func copied(os []api.Order) []api.Order {
	var out []api.Order
	for _, o := range os {
		o.Pairs, o.Data = slices.Clone(o.Pairs), slices.Clone(o.Data)
		out = append(out, o)
	}
	return out
}

// someOrder is an order of any kind that can be written on a screen of so many cells.
func someOrder(r *rand.Rand, cells int) api.Order {
	o := api.Order{Kind: kinds[r.Intn(len(kinds))]}
	switch o.Kind {
	case api.OrderData:
		for range r.Intn(5) {
			o.Data = append(o.Data, someByte(r, false))
		}
	case api.OrderGE:
		o.Byte = someByte(r, true)
	case api.OrderSBA, api.OrderEUA:
		o.Addr = r.Intn(cells)
	case api.OrderRA:
		o.Addr, o.GE = r.Intn(cells), r.Intn(2) == 0
		o.Byte = someByte(r, o.GE)
	case api.OrderSF:
		o.Byte = byte(r.Intn(64))
	case api.OrderSA:
		o.Pairs = []api.Pair{{}}
		if r.Intn(3) > 0 {
			o.Pairs[0] = api.Pair{Type: 0x41 + byte(r.Intn(2)), Value: byte(r.Intn(256))}
		}
	case api.OrderSFE, api.OrderMF:
		for range r.Intn(5) {
			o.Pairs = append(o.Pairs, api.Pair{Type: []byte{0xC0, 0x41, 0x42}[r.Intn(3)], Value: byte(r.Intn(256))})
		}
	}
	return o
}

// someByte is a plain byte, or one that may stand behind GE.
func someByte(r *rand.Rand, ge bool) byte {
	if !ge && r.Intn(3) == 0 {
		return plains[r.Intn(len(plains))]
	}
	return byte(0x40 + r.Intn(256-0x40))
}

func TestPlain(t *testing.T) { // P12.1: at all bytes
	many := 0
	for i := range 256 {
		want := i >= 0x40 || slices.Contains(plains, byte(i))
		if Plain(byte(i)) != want {
			t.Fatalf("Plain(%02X) = %t", i, Plain(byte(i)))
		}
		if want {
			many++
		}
	}
	if many != 200 {
		t.Fatalf("%d are plain", many)
	}
}

// sorts is orders none of which is the same as another one.
var sorts = []api.Order{
	{},
	{Data: []byte{0xC1}}, {Data: []byte{0xC2}}, {Data: []byte{0xC1, 0xC1}}, {Data: []byte{0}},
	{Kind: api.OrderPT}, {Kind: api.OrderIC},
	{Kind: api.OrderGE, Byte: 0x40}, {Kind: api.OrderGE, Byte: 0x41},
	{Kind: api.OrderSF, Byte: 0x30}, {Kind: api.OrderSF, Byte: 0x31},
	{Kind: api.OrderSBA}, {Kind: api.OrderSBA, Addr: 1}, {Kind: api.OrderSBA, Addr: 257}, {Kind: api.OrderSBA, Addr: -1},
	{Kind: api.OrderEUA}, {Kind: api.OrderEUA, Addr: 1},
	{Kind: api.OrderRA, Addr: 1, Byte: 0xC1}, {Kind: api.OrderRA, Addr: 1, Byte: 0xC1, GE: true}, {Kind: api.OrderRA, Addr: 2, Byte: 0xC1}, {Kind: api.OrderRA, Addr: 1, Byte: 0xC2},
	{Kind: api.OrderSA, Pairs: []api.Pair{{}}}, {Kind: api.OrderSA}, {Kind: api.OrderSA, Pairs: []api.Pair{{Type: 0x41}}},
	{Kind: api.OrderSFE}, {Kind: api.OrderSFE, Pairs: []api.Pair{{Type: 0x41}}}, {Kind: api.OrderSFE, Pairs: []api.Pair{{Type: 0x42}}}, {Kind: api.OrderSFE, Pairs: []api.Pair{{Type: 0x41, Value: 1}}},
	{Kind: api.OrderSFE, Pairs: []api.Pair{{Type: 0x41}, {Type: 0x42}}}, {Kind: api.OrderSFE, Pairs: []api.Pair{{Type: 0x42}, {Type: 0x41}}}, {Kind: api.OrderSFE, Pairs: []api.Pair{{Type: 0x41}, {Type: 0x41}}},
	{Kind: api.OrderMF}, {Kind: api.OrderMF, Pairs: []api.Pair{{Type: 0x41}}},
	{Kind: 0x01}, {Kind: 0xFF}, {Kind: 0x01, Data: []byte{0xC1}},
	{Kind: api.OrderIC, Addr: 1}, {Kind: api.OrderIC, Byte: 1}, {Kind: api.OrderIC, GE: true}, {Kind: api.OrderIC, Pairs: []api.Pair{{}}}, {Kind: api.OrderIC, Data: []byte{0}},
}

func TestSame(t *testing.T) { // P12.1: each field counts, with all others
	for i, a := range sorts {
		for j, b := range copied(sorts) {
			if Same(a, b) != (i == j) {
				t.Fatalf("Same(%+v, %+v) = %t", a, b, i != j)
			}
		}
	}
	empty := api.Order{Kind: api.OrderSFE, Pairs: make([]api.Pair, 0, 4), Data: []byte{}}
	if !Same(empty, api.Order{Kind: api.OrderSFE}) || !Same(api.Order{Kind: api.OrderSFE}, empty) {
		t.Fatal("a list that is nil isn't the same as one that is empty")
	}
}

func TestText(t *testing.T) { // P12.1
	for i, c := range []struct {
		o    api.Order
		want string
	}{
		{api.Order{}, "DATA"},
		{api.Order{Data: []byte{0xC1}}, "DATA c1"},
		{api.Order{Data: []byte{0xC1, 0x00, 0xFF, 0x0D}}, "DATA c100ff0d"},
		{api.Order{Kind: api.OrderPT}, "PT"},
		{api.Order{Kind: api.OrderGE, Byte: 0xAD}, "GE ad"},
		{api.Order{Kind: api.OrderGE}, "GE 00"},
		{api.Order{Kind: api.OrderSBA}, "SBA 0"},
		{api.Order{Kind: api.OrderSBA, Addr: 16383}, "SBA 16383"},
		{api.Order{Kind: api.OrderSBA, Addr: -7}, "SBA -7"},
		{api.Order{Kind: api.OrderEUA, Addr: 80}, "EUA 80"},
		{api.Order{Kind: api.OrderIC}, "IC"},
		{api.Order{Kind: api.OrderSF, Byte: 0x30}, "SF 30"},
		{api.Order{Kind: api.OrderSF, Byte: 0x01}, "SF 01"},
		{api.Order{Kind: api.OrderSF, Byte: 0xF0}, "SF f0"},
		{api.Order{Kind: api.OrderSA, Pairs: []api.Pair{{}}}, "SA 00=00"},
		{api.Order{Kind: api.OrderSA}, "SA"},
		{api.Order{Kind: api.OrderSFE}, "SFE"},
		{api.Order{Kind: api.OrderSFE, Pairs: []api.Pair{{Type: 0xC0, Value: 0xF0}, {Type: 0x41, Value: 0x0A}}}, "SFE c0=f0 41=0a"},
		{api.Order{Kind: api.OrderMF, Pairs: []api.Pair{{Type: 0x42, Value: 0xF2}}}, "MF 42=f2"},
		{api.Order{Kind: api.OrderRA, Addr: 5, Byte: 0xC1}, "RA 5 c1"},
		{api.Order{Kind: api.OrderRA, Addr: 0, Byte: 0x40, GE: true}, "RA 0 GE 40"},
		{api.Order{Kind: api.OrderRA}, "RA 0 00"},
		// What doesn't belong to a kind: place, GE and byte are told of their kinds alone.
		{api.Order{Kind: api.OrderIC, Addr: 3, Byte: 4, GE: true}, "IC"},
		{api.Order{Kind: api.OrderSBA, Addr: 3, Byte: 4, GE: true}, "SBA 3"},
		{api.Order{Kind: api.OrderGE, Addr: 3, Byte: 4, GE: true}, "GE 04"},
		{api.Order{Kind: api.OrderSF, Addr: 3, Byte: 4, GE: true}, "SF 04"},
		{api.Order{Addr: 3, Byte: 4, GE: true}, "DATA"},
		{api.Order{Kind: api.OrderSFE, Addr: 3, Byte: 4, GE: true}, "SFE"},
		// Pairs and Data are told of whatever has them.
		{api.Order{Kind: api.OrderSBA, Pairs: []api.Pair{{Type: 1, Value: 2}}, Data: []byte{3, 4}}, "SBA 0 01=02 0304"},
	} {
		if got := Text(c.o); got != c.want {
			t.Fatalf("row %d: %q, not %q", i, got, c.want)
		}
	}
}

func TestTextKinds(t *testing.T) { // P12.1: every kind has its name, every other byte none
	names := map[byte]string{
		0x00: "DATA", 0x05: "PT", 0x08: "GE 00", 0x11: "SBA 0", 0x12: "EUA 0", 0x13: "IC",
		0x1D: "SF 00", 0x28: "SA", 0x29: "SFE", 0x2C: "MF", 0x3C: "RA 0 00",
	}
	for kind := range 256 {
		o := api.Order{Kind: byte(kind)}
		if Text(o) != names[byte(kind)] {
			t.Fatalf("Text of %02X is %q", kind, Text(o))
		}
		full := api.Order{Kind: byte(kind), Addr: 1, Byte: 2, GE: true, Pairs: []api.Pair{{}}, Data: []byte{1}}
		if (Text(full) == "") != (names[byte(kind)] == "") {
			t.Fatalf("Text of %02X is %q", kind, Text(full))
		}
	}
}

func TestWordsTell(t *testing.T) { // P12.1: orders that can be written and have other words aren't the same, and the other way round
	r := rand.New(rand.NewSource(12))
	for range 50000 {
		a, b := someOrder(r, 8), someOrder(r, 8)
		if (Text(a) == Text(b)) != Same(a, b) {
			t.Fatalf("%+v %+v: %q %q, Same %t", a, b, Text(a), Text(b), Same(a, b))
		}
	}
}
