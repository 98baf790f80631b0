package order

import (
	"bytes"
	"math/rand"
	"slices"
	"testing"

	"greenscreen/addr"
	"greenscreen/api"
	"greenscreen/attr"
)

// wantWrite writes orders, which must be these bytes.
func wantWrite(t *testing.T, os []api.Order, cells int, want []byte) {
	t.Helper()
	if b, e := Write(os, cells); !bytes.Equal(b, want) || e != api.OK {
		t.Fatalf("Write(%q, %d) = % X %d, not % X", texts(os), cells, b, e, want)
	}
}

// wantNoWrite writes orders, which must have this error.
func wantNoWrite(t *testing.T, os []api.Order, cells int, want api.Errno) {
	t.Helper()
	if b, e := Write(os, cells); len(b) != 0 || e != want {
		t.Fatalf("Write(%+v, %d) = % X %d, not %d", os, cells, b, e, want)
	}
}

func TestWriteExample(t *testing.T) { // P12.1 and P12.2
	os, _, _ := Parse(unhex("11 40 40 1D F0 C1"))
	wantWrite(t, os, 1920, unhex("11 40 40 1D F0 C1"))
	wantWrite(t, []api.Order{{Kind: api.OrderSBA, Addr: 3}, {Data: []byte{0xC1}}}, 6, unhex("11 40 C3 C1"))
}

func TestWriteEach(t *testing.T) { // P12.1: as few cells as may be, and as many
	pairs := []api.Pair{{Type: 0xC0, Value: 0x30}, {Type: 0x41, Value: 0xF1}}
	for _, c := range []struct {
		o     api.Order
		cells int
		want  string
	}{
		{api.Order{}, 0, ""},
		{api.Order{Data: []byte{}}, 1, ""},
		{api.Order{Data: []byte{0xC1, 0, 0x3F, 0xFF}}, -1, "C1 00 3F FF"},
		{api.Order{Kind: api.OrderPT}, 0, "05"},
		{api.Order{Kind: api.OrderIC}, 0, "13"},
		{api.Order{Kind: api.OrderGE, Byte: 0x40}, 0, "08 40"},
		{api.Order{Kind: api.OrderGE, Byte: 0xFF}, 0, "08 FF"},
		{api.Order{Kind: api.OrderSF, Byte: 0x30}, 0, "1D F0"},
		{api.Order{Kind: api.OrderSF}, 0, "1D 40"},
		{api.Order{Kind: api.OrderSF, Byte: 0x01}, 0, "1D C1"},
		{api.Order{Kind: api.OrderSF, Byte: 0x3F}, 0, "1D 7F"},
		{api.Order{Kind: api.OrderSA, Pairs: []api.Pair{{}}}, 0, "28 00 00"},
		{api.Order{Kind: api.OrderSA, Pairs: []api.Pair{{Type: 0x42, Value: 0xF2}}}, 0, "28 42 F2"},
		{api.Order{Kind: api.OrderSFE}, 0, "29 00"},
		{api.Order{Kind: api.OrderSFE, Pairs: pairs}, 0, "29 02 C0 30 41 F1"},
		{api.Order{Kind: api.OrderMF, Pairs: []api.Pair{}}, 0, "2C 00"},
		{api.Order{Kind: api.OrderMF, Pairs: pairs}, 0, "2C 02 C0 30 41 F1"},
		{api.Order{Kind: api.OrderSBA}, 1, "11 40 40"},
		{api.Order{Kind: api.OrderSBA, Addr: 1919}, 1920, "11 5D 7F"},
		{api.Order{Kind: api.OrderSBA, Addr: 4095}, 4096, "11 7F 7F"},
		{api.Order{Kind: api.OrderSBA, Addr: 4095}, 4097, "11 0F FF"},
		{api.Order{Kind: api.OrderEUA, Addr: 16383}, 16384, "12 3F FF"},
		{api.Order{Kind: api.OrderEUA, Addr: 80}, 1920, "12 C1 50"},
		{api.Order{Kind: api.OrderRA, Addr: 5, Byte: 0xC1}, 6, "3C 40 C5 C1"},
		{api.Order{Kind: api.OrderRA}, 6, "3C 40 40 00"},
		{api.Order{Kind: api.OrderRA, Addr: 5, Byte: 0xC1, GE: true}, 6, "3C 40 C5 08 C1"},
		{api.Order{Kind: api.OrderRA, Addr: 300, Byte: 0x40, GE: true}, 5000, "3C 01 2C 08 40"},
	} {
		wantWrite(t, []api.Order{c.o}, c.cells, unhex(c.want))
		wantWrite(t, []api.Order{{Data: []byte{0xC1}}, c.o, {Kind: api.OrderIC}}, c.cells, slices.Concat([]byte{0xC1}, unhex(c.want), []byte{0x13}))
	}
	wantWrite(t, nil, 0, nil)
	wantWrite(t, []api.Order{}, 1920, nil)
}

func TestWriteKinds(t *testing.T) { // P12.1: no other kinds, whatever stands in them
	for kind := range 256 {
		if slices.Contains(kinds, byte(kind)) {
			continue
		}
		wantNoWrite(t, []api.Order{{Kind: byte(kind)}}, 1920, api.ErrOrder)
		wantNoWrite(t, []api.Order{{Kind: byte(kind), Data: []byte{1}, Pairs: make([]api.Pair, 300), Addr: -1, GE: true}}, 0, api.ErrOrder)
	}
}

func TestWriteAttributes(t *testing.T) { // P12.1 and P12.2: those of six bits, as layer 11's Byte; no others, as they would be parsed as these
	for i := range 256 {
		o := api.Order{Kind: api.OrderSF, Byte: byte(i)}
		if i >= 0x40 {
			wantNoWrite(t, []api.Order{o}, 0, api.ErrOrder)
			wantNoWrite(t, []api.Order{{Data: []byte{0xC1}}, o, {Kind: api.OrderIC}}, 1920, api.ErrOrder)
			continue
		}
		wantWrite(t, []api.Order{o}, 0, []byte{0x1D, attr.Byte(byte(i))})
		b, _ := Write([]api.Order{o}, 1920)
		if os, n, e := Parse(b); !sameAll(os, []api.Order{o}) || n != 2 || e != api.OK {
			t.Fatalf("SF %02X: % X, parsed as %q %d %d", i, b, texts(os), n, e)
		}
	}
}

func TestWritePairValues(t *testing.T) { // P12.1 and P12.2: all 256, an attribute's too, as they stand: they are parsed so
	for i := range 256 {
		for _, kind := range []byte{api.OrderSFE, api.OrderMF} {
			o := api.Order{Kind: kind, Pairs: []api.Pair{{Type: 0xC0, Value: byte(i)}}}
			wantWrite(t, []api.Order{o}, 0, []byte{kind, 1, 0xC0, byte(i)})
			wantParse(t, []byte{kind, 1, 0xC0, byte(i)}, Text(o), 4, api.OK)
		}
	}
}

// TestWrittenIsParsedAlone writes orders of every kind with every byte in every place that a byte has in them: what isn't refused must be parsed as it.
func TestWrittenIsParsedAlone(t *testing.T) { // P12.2
	for kind := range 256 {
		for i := range 256 {
			b := byte(i)
			for _, o := range []api.Order{
				{Byte: b}, {Byte: b, GE: true}, {Byte: b, Addr: i}, {Byte: b, Addr: i, GE: true}, {Addr: 64 * i}, {Data: []byte{b}},
				{Pairs: []api.Pair{{Type: b}}}, {Pairs: []api.Pair{{Type: b, Value: b}}}, {Pairs: []api.Pair{{Type: 0x41, Value: b}}}, {Pairs: []api.Pair{{Type: 0xC0, Value: b}}},
			} {
				o.Kind = byte(kind)
				for _, cells := range []int{1920, 4096, 16384} {
					out, e := Write([]api.Order{o}, cells)
					if e != api.OK {
						continue
					}
					os, n, f := Parse(out)
					if !sameAll(os, joined([]api.Order{o})) || n != len(out) || f != api.OK {
						t.Fatalf("%+v: % X, parsed as %+v %d %d", o, out, os, n, f)
					}
				}
			}
		}
	}
}

func TestWriteBytes(t *testing.T) { // P12.1: those that aren't plain, alone and among others, behind GE and in RA
	for i := range 256 {
		b, plain := byte(i), Plain(byte(i))
		for _, c := range []struct {
			o    api.Order
			well bool
		}{
			{api.Order{Data: []byte{b}}, plain},
			{api.Order{Data: []byte{0xC1, 0xC2, b}}, plain},
			{api.Order{Data: []byte{b, 0xC1}}, plain},
			{api.Order{Kind: api.OrderGE, Byte: b}, i >= 0x40},
			{api.Order{Kind: api.OrderRA, Addr: 1, Byte: b}, plain},
			{api.Order{Kind: api.OrderRA, Addr: 1, Byte: b, GE: true}, i >= 0x40},
		} {
			if !c.well {
				wantNoWrite(t, []api.Order{c.o}, 6, api.ErrOrder)
				continue
			}
			if out, e := Write([]api.Order{c.o}, 6); e != api.OK || out[len(out)-1] != b && len(c.o.Data) != 2 {
				t.Fatalf("Write(%+v) = % X %d", c.o, out, e)
			}
		}
	}
}

func TestWritePlaces(t *testing.T) { // P12.1: those that layer 2 encodes, and no others
	const huge = int(^uint(0) >> 1)
	for _, cells := range []int{-huge - 1, -1, 0, 1, 2, 1920, 4095, 4096, 4097, 16383, 16384, 16385, huge} {
		for _, at := range []int{-huge - 1, -1, 0, 1, 2, 1919, 1920, 4094, 4095, 4096, 4097, 16383, 16384, huge} {
			two, e := addr.Encode(at, cells)
			for _, o := range []api.Order{{Kind: api.OrderSBA}, {Kind: api.OrderEUA}, {Kind: api.OrderRA, Byte: 0xC1}} {
				o.Addr = at
				if e != api.OK {
					wantNoWrite(t, []api.Order{o}, cells, api.ErrAddress)
					continue
				}
				want := []byte{o.Kind, two[0], two[1]}
				if o.Kind == api.OrderRA {
					want = append(want, 0xC1)
				}
				wantWrite(t, []api.Order{o}, cells, want)
			}
		}
	}
}

func TestWritePairs(t *testing.T) { // P12.1: how many, and which
	for _, kind := range []byte{api.OrderSFE, api.OrderMF} {
		for many := range 260 {
			ps := make([]api.Pair, many)
			want := []byte{kind, byte(many)}
			for i := range ps {
				ps[i] = api.Pair{Type: 0x42, Value: byte(i)}
				want = append(want, 0x42, byte(i))
			}
			if many > 255 {
				wantNoWrite(t, []api.Order{{Kind: kind, Pairs: ps}}, 0, api.ErrMany)
				continue
			}
			wantWrite(t, []api.Order{{Kind: kind, Pairs: ps}}, 0, want)
		}
	}
	look := api.Pair{Type: 0x41, Value: 1}
	wantNoWrite(t, []api.Order{{Kind: api.OrderSA}}, 0, api.ErrMany)
	wantNoWrite(t, []api.Order{{Kind: api.OrderSA, Pairs: []api.Pair{}}}, 0, api.ErrMany)
	wantNoWrite(t, []api.Order{{Kind: api.OrderSA, Pairs: []api.Pair{look, look}}}, 0, api.ErrMany)
	wantNoWrite(t, []api.Order{{Kind: api.OrderSA, Pairs: make([]api.Pair, 256)}}, 0, api.ErrMany)
	for both := range 65536 {
		p := api.Pair{Type: byte(both / 256), Value: byte(both % 256)}
		for _, kind := range []byte{api.OrderSFE, api.OrderMF, api.OrderSA} {
			ps := []api.Pair{p}
			if kind != api.OrderSA {
				ps = []api.Pair{look, p}
			}
			b, e := Write([]api.Order{{Kind: kind, Pairs: ps}}, 0)
			if e != attr.Check(kind, p) || (e != api.OK) != (len(b) == 0) {
				t.Fatalf("%02X %+v: % X %d", kind, p, b, e)
			}
		}
	}
}

func TestWriteStrange(t *testing.T) { // P12.1: what doesn't belong to a kind
	belong := map[byte]string{
		api.OrderData: "data", api.OrderPT: "", api.OrderGE: "byte", api.OrderSBA: "addr", api.OrderEUA: "addr", api.OrderIC: "",
		api.OrderSF: "byte", api.OrderSA: "pairs", api.OrderSFE: "pairs", api.OrderMF: "pairs", api.OrderRA: "addr byte ge",
	}
	turn := map[string]func(o *api.Order){
		"addr": func(o *api.Order) { o.Addr = 1 },
		"byte": func(o *api.Order) {
			o.Byte = 0xC1
			if o.Kind == api.OrderSF {
				o.Byte = 0x01
			}
		},
		"ge":    func(o *api.Order) { o.GE = true },
		"pairs": func(o *api.Order) { o.Pairs = []api.Pair{{Type: 0x41}} },
		"data":  func(o *api.Order) { o.Data = []byte{0xC1} },
	}
	for _, kind := range kinds {
		well := api.Order{Kind: kind}
		for name, f := range turn {
			if bytes.Contains([]byte(belong[kind]), []byte(name)) {
				f(&well)
			}
		}
		if _, e := Write([]api.Order{well}, 6); e != api.OK {
			t.Fatalf("Write(%+v) = %d", well, e)
		}
		for name, f := range turn {
			o := well
			f(&o)
			want := api.ErrArg
			if bytes.Contains([]byte(belong[kind]), []byte(name)) {
				want = api.OK
			}
			if _, e := Write([]api.Order{o}, 6); e != want {
				t.Fatalf("Write(%+v) = %d, not %d", o, e, want)
			}
		}
		// Lists that are empty are as those that are nil; a place below 0 is something, too.
		o := well
		o.Pairs, o.Data = append([]api.Pair{}, o.Pairs...), append([]byte{}, o.Data...)
		if _, e := Write([]api.Order{o}, 6); e != api.OK {
			t.Fatalf("Write(%+v) = %d", o, e)
		}
		if o.Addr = -1; !hasAddr(kind) {
			wantNoWrite(t, []api.Order{o}, 6, api.ErrArg)
		}
	}
}

func TestWriteFirstError(t *testing.T) { // P12.1: of each order ErrOrder (kind), ErrArg, ErrMany, ErrAddress, ErrOrder (bytes), ErrAttr
	bad := make([]api.Pair, 256)
	for i := range bad {
		bad[i] = api.Pair{Type: 0x43}
	}
	for i, c := range []struct {
		o    api.Order
		want api.Errno
	}{
		{api.Order{Kind: 1, Data: []byte{1}, Pairs: bad, Addr: -1}, api.ErrOrder},
		{api.Order{Kind: api.OrderSA, Addr: 1, Pairs: bad}, api.ErrArg},
		{api.Order{Kind: api.OrderSA, Addr: 1}, api.ErrArg},
		{api.Order{Kind: api.OrderSFE, Byte: 1, Pairs: bad}, api.ErrArg},
		{api.Order{Kind: api.OrderSFE, Byte: 1, Pairs: bad[:1]}, api.ErrArg},
		{api.Order{Kind: api.OrderMF, Data: []byte{1}, Pairs: bad}, api.ErrArg},
		{api.Order{Kind: api.OrderSBA, Addr: -1, GE: true}, api.ErrArg},
		{api.Order{Kind: api.OrderRA, Addr: -1, Pairs: bad, Byte: 1}, api.ErrArg},
		{api.Order{Kind: api.OrderRA, Byte: 1, Data: []byte{0xC1}}, api.ErrArg},
		{api.Order{Kind: api.OrderGE, Byte: 1, GE: true}, api.ErrArg},
		{api.Order{Kind: api.OrderSF, Byte: 0x40, GE: true}, api.ErrArg},
		{api.Order{Kind: api.OrderSF, Byte: 0x40, Addr: 1}, api.ErrArg},
		{api.Order{Kind: api.OrderSF, Byte: 0xFF, Pairs: bad}, api.ErrArg},
		{api.Order{Kind: api.OrderSF, Byte: 0x40, Data: []byte{0xC1}}, api.ErrArg},
		{api.Order{Kind: api.OrderSF, Byte: 0x40}, api.ErrOrder},
		{api.Order{Kind: api.OrderData, Data: []byte{1}, Byte: 1}, api.ErrArg},
		{api.Order{Kind: api.OrderSFE, Pairs: bad}, api.ErrMany},
		{api.Order{Kind: api.OrderSA, Pairs: bad[:2]}, api.ErrMany},
		{api.Order{Kind: api.OrderRA, Addr: 6, Byte: 1}, api.ErrAddress},
		{api.Order{Kind: api.OrderRA, Addr: 6, Byte: 0, GE: true}, api.ErrAddress},
		{api.Order{Kind: api.OrderRA, Addr: 5, Byte: 0, GE: true}, api.ErrOrder},
		{api.Order{Kind: api.OrderSFE, Pairs: bad[:255]}, api.ErrAttr},
		{api.Order{Kind: api.OrderSA, Pairs: bad[:1]}, api.ErrAttr},
	} {
		if b, e := Write([]api.Order{c.o}, 6); len(b) != 0 || e != c.want {
			t.Fatalf("row %d: % X %d, not %d", i, b, e, c.want)
		}
	}
}

// wrongs is orders with one error each.
var wrongs = []struct {
	o api.Order
	e api.Errno
}{
	{api.Order{Kind: 2}, api.ErrOrder},
	{api.Order{Kind: api.OrderIC, Addr: 1}, api.ErrArg},
	{api.Order{Kind: api.OrderSA}, api.ErrMany},
	{api.Order{Kind: api.OrderSBA, Addr: 6}, api.ErrAddress},
	{api.Order{Data: []byte{1}}, api.ErrOrder},
	{api.Order{Kind: api.OrderSF, Byte: 0x40}, api.ErrOrder},
	{api.Order{Kind: api.OrderMF, Pairs: []api.Pair{{}}}, api.ErrAttr},
}

func TestWriteFirstOrder(t *testing.T) { // P12.1: the first order that has one
	r := rand.New(rand.NewSource(3))
	for _, first := range wrongs {
		for _, second := range wrongs {
			os := []api.Order{someOrder(r, 6), someOrder(r, 6), first.o, someOrder(r, 6), second.o}
			wantNoWrite(t, os, 6, first.e)
			wantNoWrite(t, os[:3], 6, first.e)
			wantNoWrite(t, os[2:], 6, first.e)
		}
	}
}

// joined is orders with Data that follows Data as one, and none without bytes.
func joined(os []api.Order) []api.Order {
	var out []api.Order
	for _, o := range copied(os) {
		switch {
		case o.Kind == api.OrderData && len(o.Data) == 0:
		case o.Kind == api.OrderData && len(out) > 0 && out[len(out)-1].Kind == api.OrderData:
			out[len(out)-1].Data = append(out[len(out)-1].Data, o.Data...)
		default:
			out = append(out, o)
		}
	}
	return out
}

func TestWrittenIsParsed(t *testing.T) { // P12.2: on screens of every sort
	r := rand.New(rand.NewSource(2))
	for range 60000 {
		cells := []int{1, 6, 1920, 4096, 4097, 16384}[r.Intn(6)]
		var os []api.Order
		for range r.Intn(9) {
			os = append(os, someOrder(r, cells))
		}
		b, e := Write(os, cells)
		if e != api.OK {
			t.Fatalf("Write(%q, %d) = %d", texts(os), cells, e)
		}
		back, n, e := Parse(b)
		if !sameAll(back, joined(os)) || n != len(b) || e != api.OK {
			t.Fatalf("Write(%q, %d) = % X, parsed as %q %d %d", texts(os), cells, b, texts(back), n, e)
		}
	}
}

func TestParsedIsWritten(t *testing.T) { // P12.2: what is parsed, whatever stands behind it, is written, and parsed as it again
	r := rand.New(rand.NewSource(4))
	some := []byte{0x00, 0x01, 0x02, 0x05, 0x08, 0x11, 0x12, 0x13, 0x1D, 0x28, 0x29, 0x2C, 0x3C, 0x3F, 0x40, 0x41, 0x42, 0xC0, 0xFF}
	for range 200000 {
		b := make([]byte, r.Intn(16))
		for i := range b {
			b[i] = some[r.Intn(len(some))]
			if r.Intn(8) == 0 {
				b[i] = byte(r.Intn(256))
			}
		}
		os, read, _ := Parse(b)
		for _, cells := range []int{16384, 4096} {
			out, e := Write(os, cells)
			if e == api.ErrAddress && cells == 4096 {
				continue // a place of fourteen bits
			}
			back, n, ok := Parse(out)
			if e != api.OK || !sameAll(back, os) || n != len(out) || ok != api.OK || len(out) != read {
				t.Fatalf("% X: %q, written % X %d, parsed as %q %d %d", b, texts(os), out, e, texts(back), n, ok)
			}
		}
	}
}

func TestWriteMemory(t *testing.T) { // P12.1: orders are neither changed nor kept, and every answer is new memory
	os := make([]api.Order, 0, 40)
	for _, c := range wells {
		o := c.order
		o.Pairs = append(make([]api.Pair, 0, 5), o.Pairs...)
		o.Data = append(make([]byte, 0, 20), o.Data...)
		os = append(os, o)
	}
	want := copied(os[:cap(os)])
	b, e := Write(os, 16384)
	again, _ := Write(os, 16384)
	if e != api.OK || !sameAll(os[:cap(os)], want) {
		t.Fatalf("%d: the orders were changed", e)
	}
	for i := range os {
		if !bytes.Equal(os[i].Data[len(os[i].Data):cap(os[i].Data)], make([]byte, cap(os[i].Data)-len(os[i].Data))) {
			t.Fatal("the memory behind a list was changed")
		}
		for j := range os[i].Data {
			os[i].Data[j] = 0xEE
		}
		for j := range os[i].Pairs {
			os[i].Pairs[j] = api.Pair{Type: 0xEE}
		}
		os[i] = api.Order{}
	}
	if !bytes.Equal(b, again) {
		t.Fatal("the orders were kept")
	}
	for i := range b[:cap(b)] {
		b[:cap(b)][i] = 0xDD
	}
	if third, _ := Write(want, 16384); !bytes.Equal(again, third) {
		t.Fatal("an answer shares memory with another one")
	}
	// A list of one order of data alone isn't handed back either.
	data := []byte{0xC1, 0xC2}
	out, _ := Write([]api.Order{{Data: data}}, 6)
	if out[0] = 0xEE; data[0] != 0xC1 {
		t.Fatal("the answer is what was handed in")
	}
}
