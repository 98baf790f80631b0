package command

import (
	"bytes"
	"math/rand"
	"slices"
	"testing"

	"greenscreen/api"
	"greenscreen/order"
)

// wantWrite writes a command, which must be these bytes, and what is parsed of them must be this command.
func wantWrite(t *testing.T, c Command, want []byte, back Command) {
	t.Helper()
	b, e := Write(c, 1920)
	if !bytes.Equal(b, want) || e != api.OK {
		t.Fatalf("Write(%s) = % X, %d, not % X", words(c), b, e, want)
	}
	if got, e := Parse(b); !Same(got, back) || words(got) != words(back) || e != api.OK {
		t.Fatalf("Write(%s) = % X, parsed as %s, %d", words(c), b, words(got), e)
	}
}

// wantNoWrite writes a command, which must have this error.
func wantNoWrite(t *testing.T, c Command, want api.Errno) {
	t.Helper()
	if b, e := Write(c, 1920); b != nil || e != want {
		t.Fatalf("Write(%s) = %d bytes, %d, not %d", words(c), len(b), e, want)
	}
}

// fieldsOf is a command of fields.
func fieldsOf(fs ...Field) Command { return Command{Kind: api.CmdWSF, Fields: fs} }

// writeOf is a field that writes so.
func writeOf(kind byte, os ...api.Order) Field {
	return Field{ID: 0x40, Inner: Command{Kind: kind, WCC: 0xC3, Orders: os}}
}

func TestWriteExample(t *testing.T) { // P13.1 and P13.2
	c := Command{Kind: api.CmdEW, WCC: 0xC3, Orders: []api.Order{{Kind: api.OrderSBA}}}
	wantWrite(t, c, unhex("F5 C3 11 40 40"), c)
}

func TestWriteEach(t *testing.T) { // P13.1 and P13.2: every kind, every WCC, with orders and without
	for _, k := range writes {
		for wcc := range 256 {
			c := Command{Kind: k.first, WCC: byte(wcc)}
			wantWrite(t, c, []byte{k.first, byte(wcc)}, c)
			c.Orders = []api.Order{{Kind: api.OrderSBA, Addr: 3}, {Data: []byte{0xC1}}}
			wantWrite(t, c, []byte{k.first, byte(wcc), 0x11, 0x40, 0xC3, 0xC1}, c)
		}
	}
	for _, k := range silent {
		wantWrite(t, Command{Kind: k.first}, []byte{k.first}, Command{Kind: k.first})
	}
	wantWrite(t, fieldsOf(), []byte{0xF3}, fieldsOf())
	wantWrite(t, Command{Kind: api.CmdWSF, Fields: []Field{}}, []byte{0xF3}, fieldsOf())
}

func TestWriteJoinsData(t *testing.T) { // P13.2: Data that follows Data is parsed as one, as in layer 12
	c := Command{Kind: api.CmdW, WCC: 1, Orders: []api.Order{{Data: []byte{0xC1}}, {}, {Data: []byte{0xC2}}, {Kind: api.OrderIC}}}
	back := Command{Kind: api.CmdW, WCC: 1, Orders: []api.Order{{Data: []byte{0xC1, 0xC2}}, {Kind: api.OrderIC}}}
	wantWrite(t, c, unhex("F1 01 C1 C2 13"), back)
}

func TestWriteFields(t *testing.T) { // P13.1 and P13.2: each kind of field, alone and behind others
	fields := []struct {
		f    Field
		want string
	}{
		{Field{ID: 1, Op: 2}, "00 05 01 FF 02"},
		{Field{ID: 1, Op: 0xF2}, "00 05 01 00 F2"},
		{Field{ID: 1, Op: 0xF6}, "00 05 01 00 F6"},
		{Field{ID: 1, Op: 0x6E}, "00 05 01 00 6E"},
		{Field{ID: 3}, "00 04 03 00"},
		{Field{ID: 3, Op: 0x80}, "00 04 03 80"},
		{writeOf(api.CmdW), "00 06 40 00 F1 C3"},
		{writeOf(api.CmdEW, api.Order{Kind: api.OrderSBA, Addr: 3}, api.Order{Data: []byte{0xC1}}), "00 0A 40 00 F5 C3 11 40 C3 C1"},
		{writeOf(api.CmdEWA, api.Order{Kind: api.OrderIC}), "00 07 40 00 7E C3 13"},
		{Field{ID: 0x40, Inner: Command{Kind: api.CmdEAU}}, "00 05 40 00 6F"},
	}
	for _, a := range fields {
		wantWrite(t, fieldsOf(a.f), unhex("F3"+a.want), fieldsOf(a.f))
		for _, b := range fields {
			wantWrite(t, fieldsOf(a.f, b.f, a.f), unhex("F3"+a.want+b.want+a.want), fieldsOf(a.f, b.f, a.f))
		}
	}
}

func TestWriteLetsGo(t *testing.T) { // P13.1: what doesn't belong to a kind, well or not, and Err
	bad := []api.Order{{Kind: 1}, {Kind: api.OrderSBA, Addr: -1}}
	wrong := []Field{{ID: 9}, writeOf(api.CmdWSF, bad...)}
	for _, k := range writes {
		c := Command{Kind: k.first, WCC: 7, Orders: []api.Order{{Kind: api.OrderIC}}, Err: api.ErrShort, Fields: wrong}
		wantWrite(t, c, []byte{k.first, 7, 0x13}, Command{Kind: k.first, WCC: 7, Orders: c.Orders})
	}
	for _, k := range silent {
		c := Command{Kind: k.first, WCC: 7, Orders: bad, Err: api.ErrOrder, Fields: wrong}
		wantWrite(t, c, []byte{k.first}, Command{Kind: k.first})
	}
	query := Field{ID: 1, Op: 2}
	c := Command{Kind: api.CmdWSF, WCC: 7, Orders: bad, Err: api.ErrStruct, Fields: []Field{query}}
	wantWrite(t, c, unhex("F3 00 05 01 FF 02"), fieldsOf(query))
	// Of a field: an Inner is a write's.
	junk := Command{Kind: 9, WCC: 7, Orders: bad, Err: api.ErrForm, Fields: wrong}
	wantWrite(t, fieldsOf(Field{ID: 1, Op: 2, Inner: junk}, Field{ID: 3, Op: 0x80, Inner: junk}),
		unhex("F3 00 05 01 FF 02 00 04 03 80"), fieldsOf(query, Field{ID: 3, Op: 0x80}))
	// And of an Inner what isn't its kind's.
	inner := Field{ID: 0x40, Inner: Command{Kind: api.CmdEAU, WCC: 7, Orders: bad, Err: api.ErrForm, Fields: wrong}}
	wantWrite(t, fieldsOf(inner), unhex("F3 00 05 40 00 6F"), fieldsOf(Field{ID: 0x40, Inner: Command{Kind: api.CmdEAU}}))
	inner = Field{ID: 0x40, Inner: Command{Kind: api.CmdW, WCC: 7, Err: api.ErrForm, Fields: wrong}}
	wantWrite(t, fieldsOf(inner), unhex("F3 00 06 40 00 F1 07"), fieldsOf(Field{ID: 0x40, Inner: Command{Kind: api.CmdW, WCC: 7}}))
}

func TestWriteKinds(t *testing.T) { // P13.1: kinds that are none; the other form of one is read, but no command is told in it
	for b := range 256 {
		if slices.ContainsFunc(kinds, func(k kind) bool { return k.first == byte(b) }) {
			continue
		}
		wantNoWrite(t, Command{Kind: byte(b)}, api.ErrCommand)
		// Named first, whatever stands beside it.
		wantNoWrite(t, Command{Kind: byte(b), Orders: []api.Order{{Kind: 1}}, Fields: []Field{{ID: 9}}}, api.ErrCommand)
	}
}

// wrongs is orders that may not be written on 1920 cells, each with its error.
var wrongs = []struct {
	o api.Order
	e api.Errno
}{
	{api.Order{Kind: 1}, api.ErrOrder},
	{api.Order{Kind: api.OrderIC, Addr: 1}, api.ErrArg},
	{api.Order{Kind: api.OrderSA}, api.ErrMany},
	{api.Order{Kind: api.OrderSBA, Addr: 1920}, api.ErrAddress},
	{api.Order{Data: []byte{1}}, api.ErrOrder},
	{api.Order{Kind: api.OrderMF, Pairs: []api.Pair{{}}}, api.ErrAttr},
}

func TestWriteWrongOrders(t *testing.T) { // P13.1: layer 12's errors, of a command and of a write in it
	well := api.Order{Kind: api.OrderIC}
	for _, w := range wrongs {
		for _, k := range writes {
			for _, os := range [][]api.Order{{w.o}, {well, w.o}, {w.o, well, {Kind: 1}}} {
				wantNoWrite(t, Command{Kind: k.first, Orders: os}, w.e)
				wantNoWrite(t, Command{Kind: k.first, Orders: os, Fields: []Field{{ID: 9}}}, w.e)
				wantNoWrite(t, fieldsOf(writeOf(k.first, os...)), w.e)
				wantNoWrite(t, fieldsOf(Field{ID: 3}, writeOf(k.first, os...), Field{ID: 3}), w.e)
			}
		}
		// The first write that has one.
		for _, v := range wrongs {
			wantNoWrite(t, fieldsOf(writeOf(api.CmdW, well), writeOf(api.CmdW, w.o), writeOf(api.CmdEW, v.o)), w.e)
		}
	}
}

func TestWriteCells(t *testing.T) { // P13.1: places are those of so many cells, in a write in it too
	o := api.Order{Kind: api.OrderSBA, Addr: 4096}
	c := Command{Kind: api.CmdW, Orders: []api.Order{o}}
	for _, cells := range []int{-1, 0, 1, 1920, 4096, 4097, 16384, 16385} {
		want, e := order.Write([]api.Order{o}, cells)
		b, got := Write(c, cells)
		if got != e || e == api.OK && !bytes.Equal(b, slices.Concat(unhex("F1 00"), want)) {
			t.Errorf("%d cells: % X, %d, not %d", cells, b, got, e)
		}
		b, got = Write(fieldsOf(Field{ID: 0x40, Inner: c}), cells)
		if got != e || e == api.OK && !bytes.Equal(b, slices.Concat(unhex("F3 00 09 40 00 F1 00"), want)) {
			t.Errorf("%d cells: % X, %d, not %d", cells, b, got, e)
		}
		// Where no place is to be written it doesn't matter how many there are.
		if b, e := Write(fieldsOf(writeOf(api.CmdW), Field{ID: 3}), cells); e != api.OK || len(b) != 11 {
			t.Errorf("%d cells: % X, %d", cells, b, e)
		}
	}
}

func TestWriteWrongFields(t *testing.T) { // P13.1: every ID with every Op, and every kind of an Inner
	for id := range 256 {
		for op := range 256 {
			f := Field{ID: byte(id), Op: byte(op), Inner: Command{Kind: api.CmdW}}
			well := id == 1 && slices.Contains([]int{2, 0xF2, 0xF6, 0x6E}, op) || id == 3 && op%0x80 == 0 || id == 0x40 && op == 0
			b, e := Write(fieldsOf(f), 1920)
			if well != (e == api.OK) || !well && (e != api.ErrStruct || b != nil) {
				t.Fatalf("%02X %02X: % X, %d", id, op, b, e)
			}
		}
	}
	for b := range 256 {
		f := writeOf(byte(b))
		_, e := Write(fieldsOf(f), 1920)
		if well := slices.ContainsFunc(kinds[:4], func(k kind) bool { return k.first == byte(b) }); well != (e == api.OK) || !well && e != api.ErrStruct {
			t.Fatalf("Inner %02X: %d", b, e)
		}
		// Not as said is named ahead of what an Inner has.
		if f.Op = 1; b != 0 {
			wantNoWrite(t, fieldsOf(f), api.ErrStruct)
		}
	}
}

// longOf is a field that writes so many bytes of Data.
func longOf(kind byte, many int) Field {
	return writeOf(kind, api.Order{Data: bytes.Repeat([]byte{0xC1}, many)})
}

func TestWriteLongFields(t *testing.T) { // P13.1: 65535 bytes of one, and one more
	const most = 65535 - 6
	for _, k := range writes {
		f := longOf(k.first, most)
		within := append([]byte{0x40, 0, k.first, 0xC3}, f.Inner.Orders[0].Data...)
		wantWrite(t, fieldsOf(f), slices.Concat(unhex("F3 FF FF"), within), fieldsOf(f))
		wantWrite(t, fieldsOf(f, f, Field{ID: 3}), slices.Concat(unhex("F3"), long(within), long(within), unhex("00 04 03 00")), fieldsOf(f, f, Field{ID: 3}))
		for _, many := range []int{most + 1, most + 2, most + 6, most + 7, 65536 + most, 200000} {
			wantNoWrite(t, fieldsOf(longOf(k.first, many)), api.ErrStruct)
			wantNoWrite(t, fieldsOf(Field{ID: 3}, longOf(k.first, many), Field{ID: 3}), api.ErrStruct)
		}
		// No field, no bound.
		long := Command{Kind: k.first, Orders: []api.Order{{Data: bytes.Repeat([]byte{0xC1}, 200000)}}}
		if b, e := Write(long, 1920); len(b) != 200002 || e != api.OK {
			t.Fatalf("%d bytes, %d", len(b), e)
		}
	}
	// EAU's orders are let go: they don't make it long.
	wantWrite(t, fieldsOf(longOf(api.CmdEAU, 200000)), unhex("F3 00 05 40 00 6F"), fieldsOf(Field{ID: 0x40, Inner: Command{Kind: api.CmdEAU}}))
}

func TestWriteFirstError(t *testing.T) { // P13.1: ErrStruct is named ahead of a write's Inner's, whichever field has it
	for _, w := range wrongs {
		inner := writeOf(api.CmdW, w.o)
		for _, bad := range []Field{{}, {ID: 1}, {ID: 3, Op: 1}, {ID: 0x40, Op: 1, Inner: inner.Inner}, writeOf(api.CmdRB, w.o), writeOf(0x01, w.o), longOf(api.CmdW, 65530)} {
			wantNoWrite(t, fieldsOf(bad), api.ErrStruct)
			wantNoWrite(t, fieldsOf(bad, inner), api.ErrStruct)
			wantNoWrite(t, fieldsOf(inner, bad), api.ErrStruct)
			wantNoWrite(t, fieldsOf(inner, Field{ID: 3}, inner, bad), api.ErrStruct)
			wantNoWrite(t, Command{Kind: api.CmdWSF, Orders: []api.Order{w.o}, Fields: []Field{bad}}, api.ErrStruct)
		}
		// What can't be written has no bytes, so it isn't too long either.
		wantNoWrite(t, fieldsOf(writeOf(api.CmdW, longOf(api.CmdW, 70000).Inner.Orders[0], w.o)), w.e)
	}
}

func TestWrittenIsParsed(t *testing.T) { // P13.2 and P5
	r := rand.New(rand.NewSource(5))
	for range 60000 {
		c := someCommand(r)
		b, e := Write(c, 1920)
		if e != api.OK {
			t.Fatalf("Write(%s) = %d", words(c), e)
		}
		if back, e := Parse(b); !Same(back, c) || words(back) != words(c) || e != api.OK {
			t.Fatalf("Write(%s) = % X, parsed as %s, %d", words(c), b, words(back), e)
		}
	}
}

func TestWhateverIsWritten(t *testing.T) { // P13.2: of commands of any sort, those that are written are parsed as what belongs to their kind
	r := rand.New(rand.NewSource(6))
	bytesOf := []byte{0, 1, 2, 3, 0x0D, 0x40, 0x6E, 0x6F, 0x7E, 0x80, 0xF1, 0xF2, 0xF3, 0xF5, 0xF6}
	some := func() byte { return bytesOf[r.Intn(len(bytesOf))] }
	strange := func() Command {
		c := Command{Kind: some(), WCC: some(), Err: api.Errno(r.Intn(3)), Orders: someOrders(r)}
		for range r.Intn(3) {
			c.Fields = append(c.Fields, Field{ID: []byte{1, 3, 0x40}[r.Intn(3)], Op: some(), Inner: Command{Kind: some(), WCC: some(), Err: 1, Orders: someOrders(r)}})
		}
		return c
	}
	written := 0
	for range 60000 {
		c := strange()
		b, e := Write(c, 1920)
		if e != api.OK {
			continue
		}
		written++
		if back, e := Parse(b); words(back) != words(bare(c)) || e != api.OK {
			t.Fatalf("Write(%s) = % X, parsed as %s, %d", words(c), b, words(back), e)
		}
	}
	if written < 10000 {
		t.Fatalf("%d were written", written)
	}
}

// bare is a command with nothing but what belongs to its kind, and without Err.
func bare(c Command) Command {
	out := Command{Kind: c.Kind}
	switch c.Kind {
	case api.CmdW, api.CmdEW, api.CmdEWA:
		out.WCC, out.Orders = c.WCC, c.Orders
	case api.CmdWSF:
		for _, f := range c.Fields {
			if f.ID != 0x40 {
				f.Inner = Command{}
			}
			f.Inner = bare(f.Inner)
			out.Fields = append(out.Fields, f)
		}
	}
	return out
}

func TestParsedIsWritten(t *testing.T) { // P13.2: what is parsed is written, and parsed as it again, but for what broke off
	r := rand.New(rand.NewSource(9))
	for range 100000 {
		b := append([]byte{[]byte{0xF1, 0x05, 0x7E, 0x6F, 0xF2, 0x06, 0x6E, 0xF3}[r.Intn(8)]}, make([]byte, r.Intn(16))...)
		if r.Intn(2) == 0 {
			b = []byte{0x11}
			for range r.Intn(4) {
				b = append(b, long(unhex(fielded[r.Intn(len(fielded))].within))...)
			}
		}
		for i := range b[1:] {
			if b[0] != 0x11 || r.Intn(20) == 0 {
				b[1+i] = []byte{0, 1, 3, 5, 0x11, 0x40, 0x6F, 0xC1, 0xF1, byte(r.Intn(256))}[r.Intn(10)]
			}
		}
		c, e := Parse(b)
		if e != api.OK {
			continue
		}
		out, e := Write(c, 16384)
		if e != api.OK {
			t.Fatalf("% X, parsed as %s, is written as % X, %d", b, words(c), out, e)
		}
		back, e := Parse(out)
		if words(back) != words(bare(c)) || e != api.OK {
			t.Fatalf("% X, parsed as %s, is written as % X, parsed as %s, %d", b, words(c), out, words(back), e)
		}
	}
}

func TestWriteMemory(t *testing.T) { // P13.1: a command is neither changed nor kept, and every answer is new memory
	for _, c := range []Command{
		{Kind: api.CmdW, WCC: 1, Orders: []api.Order{{Data: []byte{0xC1, 0xC2}}}},
		{Kind: api.CmdRB},
		fieldsOf(Field{ID: 3}, writeOf(api.CmdEW, api.Order{Data: []byte{0xC1, 0xC2}}, api.Order{Kind: api.OrderSFE, Pairs: []api.Pair{{Type: 0x41}}})),
	} {
		was := words(c)
		first, _ := Write(c, 1920)
		second, _ := Write(c, 1920)
		want := slices.Clone(first)
		for i := range first[:cap(first)] {
			first[:cap(first)][i] = 0xEE
		}
		if words(c) != was || !bytes.Equal(second, want) {
			t.Fatalf("%s: now %s, % X", was, words(c), second)
		}
		scratch(&c)
		if !bytes.Equal(second, want) {
			t.Fatalf("%s was kept", was)
		}
	}
}
