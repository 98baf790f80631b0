package order

import (
	"bytes"
	"math/rand"
	"slices"
	"testing"

	"greenscreen/addr"
	"greenscreen/api"
)

// wantParse parses bytes, which must be these orders, so many bytes, and this error.
func wantParse(t *testing.T, b []byte, want string, read int, e api.Errno) {
	t.Helper()
	os, n, got := Parse(b)
	if texts(os) != want || n != read || got != e {
		t.Fatalf("Parse(% X) = %q %d %d, not %q %d %d", b, texts(os), n, got, want, read, e)
	}
}

func TestExample(t *testing.T) { // P12.1: the sixth example of the whole, too
	wantParse(t, unhex("11 40 40 1D F0 C1"), "SBA 0, SF 30, DATA c1", 6, api.OK)
	os, n, e := Parse(unhex("11 40 43 C1"))
	want := []api.Order{{Kind: api.OrderSBA, Addr: 3}, {Kind: api.OrderData, Data: []byte{0xC1}}}
	if !sameAll(os, want) || n != 4 || e != api.OK {
		t.Fatalf("%+v %d %d", os, n, e)
	}
}

// wells is bytes that are one order each, and that order.
var wells = []struct {
	bytes string
	order api.Order
}{
	{"C1", api.Order{Data: []byte{0xC1}}},
	{"00", api.Order{Data: []byte{0}}},
	{"FF", api.Order{Data: []byte{0xFF}}},
	{"C1 00 40 3F 0C 0D 15 19 1C 1E", api.Order{Data: []byte{0xC1, 0, 0x40, 0x3F, 0x0C, 0x0D, 0x15, 0x19, 0x1C, 0x1E}}},
	{"05", api.Order{Kind: api.OrderPT}},
	{"13", api.Order{Kind: api.OrderIC}},
	{"08 40", api.Order{Kind: api.OrderGE, Byte: 0x40}},
	{"08 FF", api.Order{Kind: api.OrderGE, Byte: 0xFF}},
	{"11 40 40", api.Order{Kind: api.OrderSBA}},
	{"11 5D 7F", api.Order{Kind: api.OrderSBA, Addr: 1919}},
	{"11 00 00", api.Order{Kind: api.OrderSBA}},
	{"11 3F FF", api.Order{Kind: api.OrderSBA, Addr: 16383}},
	{"11 FF FF", api.Order{Kind: api.OrderSBA, Addr: 4095}},
	{"11 11 11", api.Order{Kind: api.OrderSBA, Addr: 0x1111}},
	{"12 40 C1", api.Order{Kind: api.OrderEUA, Addr: 1}},
	{"12 01 00", api.Order{Kind: api.OrderEUA, Addr: 256}},
	{"1D F0", api.Order{Kind: api.OrderSF, Byte: 0x30}},
	{"1D 00", api.Order{Kind: api.OrderSF}},
	{"1D 1D", api.Order{Kind: api.OrderSF, Byte: 0x1D}},
	{"1D FF", api.Order{Kind: api.OrderSF, Byte: 0x3F}},
	{"1D 40", api.Order{Kind: api.OrderSF}},
	{"28 00 00", api.Order{Kind: api.OrderSA, Pairs: []api.Pair{{}}}},
	{"28 41 F1", api.Order{Kind: api.OrderSA, Pairs: []api.Pair{{Type: 0x41, Value: 0xF1}}}},
	{"28 42 00", api.Order{Kind: api.OrderSA, Pairs: []api.Pair{{Type: 0x42}}}},
	{"29 00", api.Order{Kind: api.OrderSFE}},
	{"29 01 C0 F0", api.Order{Kind: api.OrderSFE, Pairs: []api.Pair{{Type: 0xC0, Value: 0xF0}}}},
	{"29 03 42 F7 C0 00 41 05", api.Order{Kind: api.OrderSFE, Pairs: []api.Pair{{Type: 0x42, Value: 0xF7}, {Type: 0xC0}, {Type: 0x41, Value: 5}}}},
	{"2C 00", api.Order{Kind: api.OrderMF}},
	{"2C 02 41 11 41 12", api.Order{Kind: api.OrderMF, Pairs: []api.Pair{{Type: 0x41, Value: 0x11}, {Type: 0x41, Value: 0x12}}}},
	{"3C 40 40 40", api.Order{Kind: api.OrderRA, Byte: 0x40}},
	{"3C 5D 7F 00", api.Order{Kind: api.OrderRA, Addr: 1919}},
	{"3C 00 05 3F", api.Order{Kind: api.OrderRA, Addr: 5, Byte: 0x3F}},
	{"3C 40 C5 08 40", api.Order{Kind: api.OrderRA, Addr: 5, Byte: 0x40, GE: true}},
	{"3C 08 08 08 FF", api.Order{Kind: api.OrderRA, Addr: 0x0808, Byte: 0xFF, GE: true}},
}

func TestEachAlone(t *testing.T) { // P12.1: and broken off at each of its bytes
	for _, c := range wells {
		b := unhex(c.bytes)
		os, n, e := Parse(b)
		if !sameAll(os, []api.Order{c.order}) || n != len(b) || e != api.OK {
			t.Fatalf("Parse(%s) = %+v %d %d, not %+v", c.bytes, os, n, e, c.order)
		}
		for end := range b {
			if end == 0 || c.order.Kind == api.OrderData {
				wantParse(t, b[:end:end], texts(dataOf(b[:end])), end, api.OK)
				continue
			}
			// The memory behind a list's end isn't to be seen.
			wantParse(t, b[:end], "", 0, api.ErrShort)
			wantParse(t, b[:end:end], "", 0, api.ErrShort)
		}
	}
}

// dataOf is bytes as an order of data, or none of no bytes.
func dataOf(b []byte) []api.Order {
	if len(b) == 0 {
		return nil
	}
	return []api.Order{{Kind: api.OrderData, Data: b}}
}

func TestEachBehindOthers(t *testing.T) { // P12.1 and P12.3: whole, and broken off at each of its bytes
	for _, first := range wells {
		for _, second := range wells {
			if first.order.Kind == api.OrderData && second.order.Kind == api.OrderData {
				continue // as one: see TestDataStandsTogether
			}
			ahead, b := unhex(first.bytes), append(unhex(first.bytes), unhex(second.bytes)...)
			wantParse(t, b, texts([]api.Order{first.order, second.order}), len(b), api.OK)
			for end := len(ahead) + 1; end < len(b); end++ {
				if second.order.Kind == api.OrderData {
					wantParse(t, b[:end], texts(append([]api.Order{first.order}, dataOf(b[len(ahead):end])...)), end, api.OK)
					continue
				}
				wantParse(t, b[:end], Text(first.order), len(ahead), api.ErrShort)
			}
		}
	}
}

func TestNoBytes(t *testing.T) { // P12.1
	wantParse(t, nil, "", 0, api.OK)
	wantParse(t, []byte{}, "", 0, api.OK)
}

func TestDataStandsTogether(t *testing.T) { // P12.1: as many as stand together are one order
	for i := range 256 {
		for j := range 256 {
			if Plain(byte(i)) && Plain(byte(j)) {
				b := []byte{byte(i), byte(j)}
				if os, n, e := Parse(b); len(os) != 1 || !bytes.Equal(os[0].Data, b) || n != 2 || e != api.OK {
					t.Fatalf("Parse(% X) = %+v %d %d", b, os, n, e)
				}
			}
		}
	}
	wantParse(t, unhex("C1 C2 13 C3 13 13 C4"), "DATA c1c2, IC, DATA c3, IC, IC, DATA c4", 7, api.OK)
	long := bytes.Repeat([]byte{0xC1, 0x00}, 100000)
	if os, n, e := Parse(long); len(os) != 1 || !bytes.Equal(os[0].Data, long) || n != len(long) || e != api.OK {
		t.Fatalf("%d orders, %d %d", len(os), n, e)
	}
}

func TestEveryByte(t *testing.T) { // P12.1: alone, behind data, behind GE, in RA and behind GE in RA
	for i := range 256 {
		b := byte(i)
		hex := texts([]api.Order{{Kind: api.OrderSF, Byte: b}})[3:]
		switch {
		case Plain(b):
			wantParse(t, []byte{b}, "DATA "+hex, 1, api.OK)
		case b == api.OrderPT || b == api.OrderIC:
			wantParse(t, []byte{b}, Text(api.Order{Kind: b}), 1, api.OK)
		case slices.Contains(kinds, b):
			wantParse(t, []byte{b}, "", 0, api.ErrShort)
			wantParse(t, []byte{0xC1, b}, "DATA c1", 1, api.ErrShort)
		default:
			wantParse(t, []byte{b}, "", 0, api.ErrOrder)
			wantParse(t, []byte{0xC1, b, 0xC1}, "DATA c1", 1, api.ErrOrder)
		}
		if b >= 0x40 {
			wantParse(t, []byte{0x08, b}, "GE "+hex, 2, api.OK)
			wantParse(t, []byte{0x3C, 0x40, 0xC5, 0x08, b}, "RA 5 GE "+hex, 5, api.OK)
		} else {
			wantParse(t, []byte{0x13, 0x08, b}, "IC", 1, api.ErrOrder)
			wantParse(t, []byte{0x13, 0x3C, 0x40, 0xC5, 0x08, b}, "IC", 1, api.ErrOrder)
		}
		switch {
		case Plain(b):
			wantParse(t, []byte{0x3C, 0x40, 0xC5, b}, "RA 5 "+hex, 4, api.OK)
		case b == 0x08:
			wantParse(t, []byte{0x3C, 0x40, 0xC5, b}, "", 0, api.ErrShort)
		default:
			wantParse(t, []byte{0x13, 0x3C, 0x40, 0xC5, b}, "IC", 1, api.ErrOrder)
		}
	}
}

func TestEveryAttributeOfSF(t *testing.T) { // P12.1: any byte, of which the lowest six bits are told
	for i := range 256 {
		os, n, e := Parse([]byte{0x1D, byte(i)})
		if !sameAll(os, []api.Order{{Kind: api.OrderSF, Byte: byte(i % 64)}}) || n != 2 || e != api.OK {
			t.Fatalf("SF %02X: %+v %d %d", i, os, n, e)
		}
	}
}

func TestEveryPlace(t *testing.T) { // P12.1: any two bytes are a place, whatever the screen
	for both := range 65536 {
		a, b := byte(both/256), byte(both%256)
		for _, kind := range []byte{api.OrderSBA, api.OrderEUA, api.OrderRA} {
			in, want := []byte{kind, a, b}, api.Order{Kind: kind, Addr: addr.Decode(a, b)}
			if kind == api.OrderRA {
				in, want.Byte = append(in, 0xC1), 0xC1
			}
			if os, n, e := Parse(in); !sameAll(os, []api.Order{want}) || n != len(in) || e != api.OK {
				t.Fatalf("Parse(% X) = %+v %d %d", in, os, n, e)
			}
		}
	}
}

func TestEveryPair(t *testing.T) { // P12.1: in each kind of order, also behind one that is well
	for both := range 65536 {
		p := api.Pair{Type: byte(both / 256), Value: byte(both % 256)}
		look := p.Type == 0x41 || p.Type == 0x42
		for _, kind := range []byte{api.OrderSFE, api.OrderMF} {
			well := look || p.Type == 0xC0
			os, n, e := Parse([]byte{kind, 2, 0x41, 0xF1, p.Type, p.Value})
			if well && (!sameAll(os, []api.Order{{Kind: kind, Pairs: []api.Pair{{Type: 0x41, Value: 0xF1}, p}}}) || n != 6 || e != api.OK) {
				t.Fatalf("%02X %+v: %+v %d %d", kind, p, os, n, e)
			}
			if !well && (len(os) != 0 || n != 0 || e != api.ErrAttr) {
				t.Fatalf("%02X %+v: %+v %d %d", kind, p, os, n, e)
			}
		}
		well := look || both == 0
		os, n, e := Parse([]byte{api.OrderSA, p.Type, p.Value})
		if well && (!sameAll(os, []api.Order{{Kind: api.OrderSA, Pairs: []api.Pair{p}}}) || n != 3 || e != api.OK) {
			t.Fatalf("SA %+v: %+v %d %d", p, os, n, e)
		}
		if !well && (len(os) != 0 || n != 0 || e != api.ErrAttr) {
			t.Fatalf("SA %+v: %+v %d %d", p, os, n, e)
		}
	}
}

func TestManyPairs(t *testing.T) { // P12.1: 0 to 255, one more than there are, one fewer
	for _, kind := range []byte{api.OrderSFE, api.OrderMF} {
		for many := range 256 {
			b := append([]byte{kind, byte(many)}, bytes.Repeat([]byte{0x41, 0xF1}, many)...)
			os, n, e := Parse(b)
			if len(os) != 1 || len(os[0].Pairs) != many || n != len(b) || e != api.OK {
				t.Fatalf("%d pairs: %+v %d %d", many, os, n, e)
			}
			os, n, e = Parse(append(b, 0x41, 0xF1)) // of which 41 and F1 are plain
			if len(os) != 2 || len(os[0].Pairs) != many || Text(os[1]) != "DATA 41f1" || n != len(b)+2 || e != api.OK {
				t.Fatalf("%d pairs and two bytes: %+v %d %d", many, os, n, e)
			}
			if many > 0 {
				wantParse(t, b[:len(b)-1], "", 0, api.ErrShort)
				wantParse(t, b[:len(b)-2], "", 0, api.ErrShort)
			}
		}
	}
}

func TestFirstFault(t *testing.T) { // P12.1: of an order the first one in the order of its bytes
	for _, c := range []struct {
		bytes string
		want  string
		read  int
		e     api.Errno
	}{
		{"29 03 43 F1 41", "", 0, api.ErrAttr},       // a pair ahead of the end
		{"29 03 41 F1 43", "", 0, api.ErrShort},      // the end within the pair
		{"29 02 41 F1 00 00 C1", "", 0, api.ErrAttr}, // SA's alone
		{"29 02 43 F1 44 F1", "", 0, api.ErrAttr},
		{"28 43", "", 0, api.ErrShort},
		{"28 C0 F0", "", 0, api.ErrAttr},
		{"28 00 01", "", 0, api.ErrAttr},
		{"3C 40", "", 0, api.ErrShort},
		{"3C 01 01", "", 0, api.ErrShort},
		{"3C 40 40 01", "", 0, api.ErrOrder},
		{"3C 40 40 08", "", 0, api.ErrShort},
		{"3C 40 40 08 08 40", "", 0, api.ErrOrder},
		{"08 08 40", "", 0, api.ErrOrder},
		{"08 00", "", 0, api.ErrOrder}, // plain, but below 40
		{"08 3F", "", 0, api.ErrOrder},
		{"13 01 28 43 43", "IC", 1, api.ErrOrder}, // the first order that has one
		{"13 28 43 43 01", "IC", 1, api.ErrAttr},
		{"C1 C2 05 11 40", "DATA c1c2, PT", 3, api.ErrShort},
		{"C1 1D F0 3C 40 40 40 29 02 C0 F0 02 02 C3", "DATA c1, SF 30, RA 0 40", 7, api.ErrAttr},
	} {
		wantParse(t, unhex(c.bytes), c.want, c.read, c.e)
	}
}

// fault is an error, and the byte at which it is seen.
type fault struct {
	at int
	e  api.Errno
}

// form is the first order of bytes, how many it has, and which faults: each told at the byte with which it is certain.
func form(b []byte) (o api.Order, many int, faults []fault) {
	if Plain(b[0]) {
		for many < len(b) && Plain(b[many]) {
			many++
		}
		return api.Order{Data: b[:many]}, many, nil
	}
	o.Kind = b[0]
	byteAt := func(i int) byte {
		if i < len(b) {
			return b[i]
		}
		return 0xFF
	}
	switch b[0] {
	default:
		return o, 1, []fault{{0, api.ErrOrder}}
	case 0x05, 0x13:
		many = 1
	case 0x1D:
		many, o.Byte = 2, byteAt(1)&0x3F
	case 0x08:
		many, o.Byte = 2, byteAt(1)
	case 0x11, 0x12:
		many, o.Addr = 3, addr.Decode(byteAt(1), byteAt(2))
	case 0x3C:
		many, o.Addr, o.Byte = 4, addr.Decode(byteAt(1), byteAt(2)), byteAt(3)
		if byteAt(3) == 0x08 {
			many, o.GE, o.Byte = 5, true, byteAt(4)
		}
	case 0x28:
		many, o.Pairs = 3, []api.Pair{{Type: byteAt(1), Value: byteAt(2)}}
	case 0x29, 0x2C:
		if len(b) == 1 {
			return o, 2, []fault{{1, api.ErrShort}}
		}
		many = 2 + 2*int(b[1])
		for i := 2; i < many; i += 2 {
			o.Pairs = append(o.Pairs, api.Pair{Type: byteAt(i), Value: byteAt(i + 1)})
		}
	}
	if many > len(b) {
		faults = append(faults, fault{len(b), api.ErrShort})
	}
	if last := many - 1; (o.Kind == 0x08 || o.GE) && o.Byte < 0x40 || o.Kind == 0x3C && !o.GE && !Plain(o.Byte) {
		faults = append(faults, fault{last, api.ErrOrder})
	}
	for i, p := range o.Pairs {
		well := p.Type == 0x41 || p.Type == 0x42 || p.Type == 0xC0 && o.Kind != 0x28 || o.Kind == 0x28 && p == api.Pair{}
		if at := many - 2*(len(o.Pairs)-i) + 1; !well {
			faults = append(faults, fault{at, api.ErrAttr})
		}
	}
	return o, many, faults
}

// formParse is Parse by the form.
func formParse(b []byte) (os []api.Order, read int, e api.Errno) {
	for read < len(b) {
		o, many, faults := form(b[read:])
		if len(faults) > 0 {
			slices.SortFunc(faults, func(a, b fault) int { return a.at - b.at })
			return os, read, faults[0].e
		}
		os, read = append(os, o), read+many
	}
	return os, read, api.OK
}

// wantForm holds Parse against the form.
func wantForm(t *testing.T, b []byte) {
	t.Helper()
	os, n, e := Parse(b)
	want, read, fe := formParse(b)
	if !sameAll(os, want) || n != read || e != fe {
		t.Fatalf("Parse(% X) = %q %d %d, not %q %d %d", b, texts(os), n, e, texts(want), read, fe)
	}
	if e != api.OK {
		// P12.3: the orders ahead of an error are those of the bytes ahead of it.
		if ahead, m, ok := Parse(b[:n]); !sameAll(os, ahead) || m != n || ok != api.OK {
			t.Fatalf("Parse(% X): %q ahead of %d, which are %q %d %d", b, texts(os), n, texts(ahead), m, ok)
		}
	}
}

// everyRow calls with every row of so many of these bytes.
func everyRow(many int, of []byte, call func(b []byte)) {
	b, at := make([]byte, many), make([]int, many)
	for {
		for i := range b {
			b[i] = of[at[i]]
		}
		call(b)
		i := 0
		for ; i < many; i++ {
			if at[i]++; at[i] < len(of) {
				break
			}
			at[i] = 0
		}
		if i == many {
			return
		}
	}
}

func TestAllShortRows(t *testing.T) { // P12.1 and P12.3: all rows of up to two bytes, rows of up to five of those that mean something
	all := make([]byte, 256)
	for i := range all {
		all[i] = byte(i)
	}
	for many := range 3 {
		everyRow(many, all, func(b []byte) { wantForm(t, b) })
	}
	some := []byte{0x00, 0x01, 0x02, 0x05, 0x08, 0x11, 0x13, 0x1D, 0x28, 0x29, 0x2C, 0x3C, 0x40, 0x41, 0xC0}
	for many := 3; many <= 5; many++ {
		everyRow(many, some, func(b []byte) { wantForm(t, b) })
	}
}

func TestLongRows(t *testing.T) { // P12.1 and P12.3: well ones, and such with a byte turned, taken out, laid in, or broken off
	r := rand.New(rand.NewSource(1))
	for range 60000 {
		var os []api.Order
		for range r.Intn(8) {
			os = append(os, someOrder(r, 4096))
		}
		b, e := Write(os, 4096)
		if e != api.OK {
			t.Fatalf("%q: %d", texts(os), e)
		}
		wantForm(t, b)
		for range r.Intn(3) {
			at := r.Intn(len(b) + 1)
			switch r.Intn(4) {
			case 0:
				b = b[:at]
			case 1:
				b = slices.Insert(b, at, byte(r.Intn(0x44)))
			case 2:
				b = slices.Delete(b, max(at-1, 0), at)
			case 3:
				if at < len(b) {
					b[at] = byte(r.Intn(256))
				}
			}
		}
		wantForm(t, b)
	}
}

func TestParseMemory(t *testing.T) { // P12.1: bytes are neither changed nor kept, and no two lists share memory
	var b []byte
	for range 3 {
		for _, c := range wells {
			b = append(b, unhex(c.bytes)...)
		}
	}
	b = append(b, 0x28, 0xC0, 0xF0, 0xC1)
	in := append(make([]byte, 0, len(b)+9), b...)
	os, n, e := Parse(in)
	if !bytes.Equal(in[:cap(in)], append(slices.Clone(b), make([]byte, cap(in)-len(b))...)) {
		t.Fatal("the bytes were changed")
	}
	want := copied(os)
	for i := range in {
		in[i] = 0xEE
	}
	if !sameAll(os, want) || n != len(b)-4 || e != api.ErrAttr {
		t.Fatal("the bytes were kept")
	}
	for i := range os {
		// Written over, spare room too: of the others nothing may turn.
		for j := range os[i].Data[:cap(os[i].Data)] {
			os[i].Data[:cap(os[i].Data)][j] = 0xDD
		}
		for j := range os[i].Pairs[:cap(os[i].Pairs)] {
			os[i].Pairs[:cap(os[i].Pairs)][j] = api.Pair{Type: 0xDD, Value: 0xDD}
		}
		if !sameAll(os[i+1:], want[i+1:]) {
			t.Fatalf("order %d shares memory with another one", i)
		}
	}
	if again, _, _ := Parse(b); !sameAll(again, want) {
		t.Fatal("Parse answers something else than before")
	}
}

func TestParseFields(t *testing.T) { // P12.1: of each order nothing stands in it that isn't its kind's
	r := rand.New(rand.NewSource(7))
	for range 20000 {
		b := make([]byte, r.Intn(12))
		for i := range b {
			b[i] = byte(r.Intn(256))
		}
		os, _, _ := Parse(b)
		for _, o := range os {
			if !belongs(o) || o.Kind == api.OrderData && len(o.Data) == 0 {
				t.Fatalf("Parse(% X): %+v", b, o)
			}
		}
	}
}
