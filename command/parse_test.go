package command

import (
	"bytes"
	"math/rand"
	"slices"
	"strings"
	"testing"

	"greenscreen/api"
)

// wantParse parses bytes, which must be this command and error.
func wantParse(t *testing.T, b []byte, want Command, e api.Errno) {
	t.Helper()
	c, got := Parse(b)
	if words(c) != words(want) || got != e {
		t.Fatalf("Parse(% X) = %s, %d, not %s, %d", b, words(c), got, words(want), e)
	}
}

// wantFields parses the bytes of fields, in both forms of WSF.
func wantFields(t *testing.T, b []byte, want []Field, e api.Errno) {
	t.Helper()
	for _, form := range []byte{0xF3, 0x11} {
		wantParse(t, append([]byte{form}, b...), Command{Kind: api.CmdWSF, Fields: want, Err: e}, api.OK)
	}
}

func TestParseExample(t *testing.T) { // P13.1
	want := Command{Kind: api.CmdEW, WCC: 0xC3, Orders: []api.Order{{Kind: api.OrderSBA}}}
	wantParse(t, unhex("F5 C3 11 40 40"), want, api.OK)
}

// behinds is what may stand behind a command's byte, well or not.
var behinds = []string{"", "00", "C3", "FF", "C3 C1", "C3 01", "C3 11 40", "00 04 03 00", "00 04 03 80 C1", "00 00", "01 02 03"}

func TestEveryCommand(t *testing.T) { // P13.1: all 256 bytes, with nothing behind them and with something
	wantParse(t, nil, Command{}, api.ErrCommand)
	wantParse(t, []byte{}, Command{}, api.ErrCommand)
	wantParse(t, unhex("F1 C3")[:0], Command{}, api.ErrCommand)
	known := map[byte]kind{}
	for _, k := range kinds {
		known[k.first], known[k.second] = k, k
	}
	for b := range 256 {
		for _, behind := range behinds {
			in := append([]byte{byte(b)}, unhex(behind)...)
			k, ok := known[byte(b)]
			switch {
			case !ok:
				wantParse(t, in, Command{}, api.ErrCommand)
			case slices.Contains(silent, k):
				wantParse(t, in, Command{Kind: k.first}, api.OK)
			case k.name == "WSF":
				fs, e := formFields(in[1:])
				wantParse(t, in, Command{Kind: k.first, Fields: fs, Err: e}, api.OK)
			case len(in) == 1:
				wantParse(t, in, Command{}, api.ErrShort)
			default:
				os, e := ordersOf(in[2:])
				wantParse(t, in, Command{Kind: k.first, WCC: in[1], Orders: os, Err: e}, api.OK)
			}
		}
	}
}

func TestEveryWCC(t *testing.T) { // P13.1: of each command that has one, in both forms; without orders, and with some
	for _, k := range writes {
		for _, form := range []byte{k.first, k.second} {
			wantParse(t, []byte{form}, Command{}, api.ErrShort)
			// The memory behind a list's end isn't to be seen.
			wantParse(t, []byte{form, 0xC3}[:1], Command{}, api.ErrShort)
			for wcc := range 256 {
				want := Command{Kind: k.first, WCC: byte(wcc)}
				wantParse(t, []byte{form, byte(wcc)}, want, api.OK)
				want.Orders = []api.Order{{Kind: api.OrderIC}, {Data: []byte{0xC1}}}
				wantParse(t, []byte{form, byte(wcc), 0x13, 0xC1}, want, api.OK)
			}
		}
	}
}

// ordered is bytes of orders, those of them that count, and layer 12's error.
var ordered = []struct {
	bytes  string
	orders []api.Order
	e      api.Errno
}{
	{"", nil, api.OK},
	{"C1 C2", []api.Order{{Data: []byte{0xC1, 0xC2}}}, api.OK},
	{"11 40 43 C1", []api.Order{{Kind: api.OrderSBA, Addr: 3}, {Data: []byte{0xC1}}}, api.OK},
	{"13 1D F0 29 01 42 F2", []api.Order{{Kind: api.OrderIC}, {Kind: api.OrderSF, Byte: 0x30}, {Kind: api.OrderSFE, Pairs: []api.Pair{{Type: 0x42, Value: 0xF2}}}}, api.OK},
	{"11", nil, api.ErrShort},
	{"C1 11 40", []api.Order{{Data: []byte{0xC1}}}, api.ErrShort},
	{"C1 13 29 01 42", []api.Order{{Data: []byte{0xC1}}, {Kind: api.OrderIC}}, api.ErrShort},
	{"01", nil, api.ErrOrder},
	{"13 02 C1", []api.Order{{Kind: api.OrderIC}}, api.ErrOrder},
	{"C1 08 3F 13", []api.Order{{Data: []byte{0xC1}}}, api.ErrOrder},
	{"28 C0 F0", nil, api.ErrAttr},
	{"05 13 2C 01 00 00 C1", []api.Order{{Kind: api.OrderPT}, {Kind: api.OrderIC}}, api.ErrAttr},
}

func TestOrders(t *testing.T) { // P13.1: those ahead of an error are told, and it is
	for _, k := range writes {
		for _, form := range []byte{k.first, k.second} {
			for _, c := range ordered {
				want := Command{Kind: k.first, WCC: 0xC2, Orders: c.orders, Err: c.e}
				wantParse(t, append([]byte{form, 0xC2}, unhex(c.bytes)...), want, api.OK)
			}
		}
	}
}

// fielded is fields that are as said, without their lengths, and what they are.
var fielded = []struct {
	within string
	field  Field
}{
	{"01 FF 02", Field{ID: 1, Op: 0x02}},
	{"01 00 F2", Field{ID: 1, Op: 0xF2}},
	{"01 00 F6", Field{ID: 1, Op: 0xF6}},
	{"01 00 6E", Field{ID: 1, Op: 0x6E}},
	{"03 00", Field{ID: 3}},
	{"03 80", Field{ID: 3, Op: 0x80}},
	{"40 00 F1 00", Field{ID: 0x40, Inner: Command{Kind: api.CmdW}}},
	{"40 00 01 C3", Field{ID: 0x40, Inner: Command{Kind: api.CmdW, WCC: 0xC3}}},
	{"40 00 F5 C3 11 40 43 C1", Field{ID: 0x40, Inner: Command{Kind: api.CmdEW, WCC: 0xC3, Orders: []api.Order{{Kind: api.OrderSBA, Addr: 3}, {Data: []byte{0xC1}}}}}},
	{"40 00 05 FF 13", Field{ID: 0x40, Inner: Command{Kind: api.CmdEW, WCC: 0xFF, Orders: []api.Order{{Kind: api.OrderIC}}}}},
	{"40 00 7E 04", Field{ID: 0x40, Inner: Command{Kind: api.CmdEWA, WCC: 4}}},
	{"40 00 0D 04 C1", Field{ID: 0x40, Inner: Command{Kind: api.CmdEWA, WCC: 4, Orders: []api.Order{{Data: []byte{0xC1}}}}}},
	{"40 00 6F", Field{ID: 0x40, Inner: Command{Kind: api.CmdEAU}}},
	{"40 00 0F", Field{ID: 0x40, Inner: Command{Kind: api.CmdEAU}}},
	{"40 00 6F 01 11", Field{ID: 0x40, Inner: Command{Kind: api.CmdEAU}}},
	{"40 00 F1 C3 C1 11 40", Field{ID: 0x40, Inner: Command{Kind: api.CmdW, WCC: 0xC3, Orders: []api.Order{{Data: []byte{0xC1}}}, Err: api.ErrShort}}},
	{"40 00 05 C3 02", Field{ID: 0x40, Inner: Command{Kind: api.CmdEW, WCC: 0xC3, Err: api.ErrOrder}}},
	{"40 00 7E C3 13 28 C0 00", Field{ID: 0x40, Inner: Command{Kind: api.CmdEWA, WCC: 0xC3, Orders: []api.Order{{Kind: api.OrderIC}}, Err: api.ErrAttr}}},
}

// broken is fields that aren't as said, without their lengths.
var broken = []string{
	"00", "00 00", "02", "02 FF 02", "04", "41 00 F1 C3", "3F", "80", "81", "FF",
	// Too little, and too much.
	"01", "01 FF", "01 00", "01 FF 02 00", "01 00 F2 00", "01 00 F6 C1", "01 00 6E 6E", "01 02",
	"03", "03 00 00", "03 80 00", "03 80 80",
	"40", "40 00", "40 F1 C3", "40 00 F1", "40 00 01", "40 00 F5", "40 00 05", "40 00 7E", "40 00 0D",
	// Others than those, next to them.
	"01 FE 02", "01 00 02", "01 FF F2", "01 FF F6", "01 FF 6E", "01 FF 01", "01 FF 03", "01 FF FF", "01 01 F2", "01 00 F1", "01 00 F3", "01 00 F5", "01 00 F7", "01 00 6D", "01 00 6F", "01 00 06", "01 00 0E", "01 00 00",
	"03 01", "03 7F", "03 81", "03 FF",
	"40 01 F1 C3", "40 FF F1 C3", "40 80 6F", "40 01 6F",
	"40 00 F2", "40 00 02", "40 00 F6", "40 00 06", "40 00 6E", "40 00 0E", "40 00 F3", "40 00 11", "40 00 F3 00 04 03 00", "40 00 00 C3", "40 00 F4 C3", "40 00 FF C3", "40 00 40 00 F1 C3",
}

// long is a field's bytes with their length.
func long(within []byte) []byte {
	many := len(within) + 2
	return append([]byte{byte(many / 256), byte(many % 256)}, within...)
}

// open is a field's bytes with the length 0.
func open(within []byte) []byte { return append([]byte{0, 0}, within...) }

func TestFieldsAlone(t *testing.T) { // P13.1: of each kind, also with the length 0
	wantFields(t, nil, nil, api.OK)
	for _, c := range fielded {
		wantFields(t, long(unhex(c.within)), []Field{c.field}, api.OK)
		wantFields(t, open(unhex(c.within)), []Field{c.field}, api.OK)
	}
	for _, within := range broken {
		wantFields(t, long(unhex(within)), nil, api.ErrStruct)
		wantFields(t, open(unhex(within)), nil, api.ErrStruct)
	}
}

func TestFieldsBehindOthers(t *testing.T) { // P13.1: and behind those that aren't as said, of which nothing is told
	for _, a := range fielded {
		ahead := long(unhex(a.within))
		for _, b := range fielded {
			wantFields(t, slices.Concat(ahead, long(unhex(b.within))), []Field{a.field, b.field}, api.OK)
			wantFields(t, slices.Concat(ahead, open(unhex(b.within))), []Field{a.field, b.field}, api.OK)
			wantFields(t, slices.Concat(ahead, ahead, long(unhex(b.within)), ahead), []Field{a.field, a.field, b.field, a.field}, api.OK)
		}
		for _, within := range broken {
			wantFields(t, slices.Concat(ahead, long(unhex(within))), []Field{a.field}, api.ErrStruct)
			wantFields(t, slices.Concat(ahead, open(unhex(within))), []Field{a.field}, api.ErrStruct)
			wantFields(t, slices.Concat(ahead, long(unhex(within)), ahead), []Field{a.field}, api.ErrStruct)
			wantFields(t, slices.Concat(long(unhex(within)), ahead), nil, api.ErrStruct)
		}
	}
}

func TestLengths(t *testing.T) { // P13.1: all of two bytes, of a field with one behind it, and of those that break off
	reset := Field{ID: 3, Op: 0x80}
	in := unhex("00 04 03 80 00 04 03 80")
	for many := range 65536 {
		in[4], in[5] = byte(many/256), byte(many%256)
		want, e := []Field{reset}, api.ErrStruct
		if many == 0 || many == 4 {
			want, e = []Field{reset, reset}, api.OK
		}
		wantFields(t, in, want, e)
	}
	wantFields(t, unhex("00"), nil, api.ErrStruct)
	wantFields(t, unhex("04"), nil, api.ErrStruct)
	wantFields(t, unhex("00 00"), nil, api.ErrStruct)
	for _, many := range []string{"00 01", "00 02", "00 03", "00 04", "FF FF"} {
		wantFields(t, unhex(many), nil, api.ErrStruct)
		wantFields(t, unhex("00 04 03 80"+many), []Field{reset}, api.ErrStruct)
	}
	wantFields(t, unhex("00 04 03 80 00"), []Field{reset}, api.ErrStruct)
	wantFields(t, unhex("00 04 03 80 00 00"), []Field{reset}, api.ErrStruct)
	wantFields(t, unhex("00 04 03 80 00 03 03"), []Field{reset}, api.ErrStruct)
	// The length 0 takes what stands behind, too: no field is behind it.
	wantFields(t, unhex("00 00 03 80 00 04 03 80"), nil, api.ErrStruct)
	wantFields(t, unhex("00 00 40 00 6F 00 04 03 80"), []Field{{ID: 0x40, Inner: Command{Kind: api.CmdEAU}}}, api.OK)
}

func TestBreaksOff(t *testing.T) { // P13.1: a field that ends early, at each of its bytes
	for _, c := range fielded {
		b := long(unhex(c.within))
		for end := 1; end < len(b); end++ {
			wantFields(t, b[:end], nil, api.ErrStruct)
			wantFields(t, slices.Concat(unhex("00 04 03 00"), b[:end]), []Field{{ID: 3}}, api.ErrStruct)
		}
	}
}

func TestBrokenWrites(t *testing.T) { // P13.1: the error of a write's orders is its own, and fields behind it are told
	b := unhex("00 08 40 00 F1 C3 11 40  00 05 01 FF 02  00 09 40 00 F5 C3 C1 02 C1  00 04 03 80")
	wantFields(t, b, []Field{
		{ID: 0x40, Inner: Command{Kind: api.CmdW, WCC: 0xC3, Err: api.ErrShort}},
		{ID: 1, Op: 2},
		{ID: 0x40, Inner: Command{Kind: api.CmdEW, WCC: 0xC3, Orders: []api.Order{{Data: []byte{0xC1}}}, Err: api.ErrOrder}},
		{ID: 3, Op: 0x80},
	}, api.OK)
	// A write's orders end where its field does.
	wantFields(t, unhex("00 07 40 00 F1 C3 11  40 40 C1"), []Field{
		{ID: 0x40, Inner: Command{Kind: api.CmdW, WCC: 0xC3, Err: api.ErrShort}},
	}, api.ErrStruct)
}

func TestEveryField(t *testing.T) { // P13.1: every kind, and every two bytes in it
	read := map[[2]byte]bool{{0xFF, 0x02}: true, {0, 0xF2}: true, {0, 0xF6}: true, {0, 0x6E}: true}
	for id := range 256 {
		for _, behind := range []string{"", "00", "80", "FF 02", "00 F2", "00 F1 C3", "00 6F"} {
			within := append([]byte{byte(id)}, unhex(behind)...)
			if f, ok := formField(within); ok {
				wantFields(t, long(within), []Field{f}, api.OK)
			} else {
				wantFields(t, long(within), nil, api.ErrStruct)
			}
		}
	}
	for both := range 65536 {
		a, b := byte(both/256), byte(both%256)
		if read[[2]byte{a, b}] {
			wantFields(t, []byte{0, 5, 1, a, b}, []Field{{ID: 1, Op: b}}, api.OK)
		} else {
			wantFields(t, []byte{0, 5, 1, a, b}, nil, api.ErrStruct)
		}
		wantFields(t, []byte{0, 5, 3, a, b}, nil, api.ErrStruct)
		for _, within := range [][]byte{{0x40, a, b}, {0x40, a, b, 0xC3}} {
			if f, ok := formField(within); ok {
				wantFields(t, long(within), []Field{f}, api.OK)
			} else {
				wantFields(t, long(within), nil, api.ErrStruct)
			}
		}
	}
	for b := range 256 {
		want, e := []Field{{ID: 3, Op: byte(b)}}, api.OK
		if b != 0 && b != 0x80 {
			want, e = nil, api.ErrStruct
		}
		wantFields(t, []byte{0, 4, 3, byte(b)}, want, e)
	}
}

// formField is a field by the chapter's words, of the bytes behind its length.
func formField(b []byte) (Field, bool) {
	reads := map[string]byte{"\x01\xFF\x02": 0x02, "\x01\x00\xF2": 0xF2, "\x01\x00\xF6": 0xF6, "\x01\x00\x6E": 0x6E}
	resets := map[string]byte{"\x03\x00": 0, "\x03\x80": 0x80}
	if op, ok := reads[string(b)]; ok {
		return Field{ID: 1, Op: op}, true
	}
	if op, ok := resets[string(b)]; ok {
		return Field{ID: 3, Op: op}, true
	}
	if len(b) < 3 || b[0] != 0x40 || b[1] != 0 {
		return Field{}, false
	}
	for _, k := range kinds[:4] {
		if b[2] != k.first && b[2] != k.second {
			continue
		}
		f := Field{ID: 0x40, Inner: Command{Kind: k.first}}
		if k.name == "EAU" {
			return f, true
		}
		if len(b) == 3 {
			return Field{}, false
		}
		f.Inner.WCC = b[3]
		f.Inner.Orders, f.Inner.Err = ordersOf(b[4:])
		return f, true
	}
	return Field{}, false
}

// formFields is fields by the chapter's words.
func formFields(b []byte) (fs []Field, e api.Errno) {
	for at := 0; at < len(b); {
		if at+2 > len(b) {
			return fs, api.ErrStruct
		}
		end := at + int(b[at])<<8 + int(b[at+1])
		if end == at {
			end = len(b)
		}
		if end < at+3 || end > len(b) {
			return fs, api.ErrStruct
		}
		f, ok := formField(b[at+2 : end])
		if !ok {
			return fs, api.ErrStruct
		}
		fs, at = append(fs, f), end
	}
	return fs, api.OK
}

// everyRow calls with every row of so many of these bytes.
func everyRow(many int, of []byte, call func(b []byte)) {
	if many == 0 {
		call(nil)
		return
	}
	everyRow(many-1, of, func(b []byte) {
		for _, last := range of {
			call(append(slices.Clone(b), last))
		}
	})
}

// wantForm holds the parsed fields against those by the chapter's words.
func wantForm(t *testing.T, b []byte) {
	t.Helper()
	fs, e := formFields(b)
	c, got := Parse(append([]byte{0xF3}, b...))
	if !Same(c, Command{Kind: api.CmdWSF, Fields: fs, Err: e}) || got != api.OK {
		t.Fatalf("Parse(F3 % X) = %s, %d, not %s", b, words(c), got, words(Command{Kind: api.CmdWSF, Fields: fs, Err: e}))
	}
}

func TestRowsOfFields(t *testing.T) { // P13.1: all of up to two bytes, and all of up to six of those that mean something
	all := make([]byte, 256)
	for i := range all {
		all[i] = byte(i)
	}
	some := []byte{0x00, 0x01, 0x02, 0x03, 0x04, 0x05, 0x40, 0x6F, 0x80, 0xF1, 0xFF}
	for many := range 7 {
		if many <= 2 {
			everyRow(many, all, func(b []byte) { wantForm(t, b) })
		}
		everyRow(many, some, func(b []byte) { wantForm(t, b) })
	}
}

func TestDamagedFields(t *testing.T) { // P13.1: long rows, with bytes turned, let go and laid in between
	r := rand.New(rand.NewSource(7))
	for range 60000 {
		var b []byte
		for range r.Intn(6) {
			b = append(b, long(unhex(fielded[r.Intn(len(fielded))].within))...)
		}
		for range r.Intn(3) {
			if at := r.Intn(len(b) + 1); at < len(b) {
				switch r.Intn(3) {
				case 0:
					b[at] = byte(r.Intn(256))
				case 1:
					b = slices.Delete(b, at, at+1)
				default:
					b = slices.Insert(b, at, byte(r.Intn(8)))
				}
			}
		}
		wantForm(t, b)
	}
}

func TestLongFields(t *testing.T) { // P13.1: as long as a length can tell, longer with the length 0, and as many as may be
	data := bytes.Repeat([]byte{0xC1}, 65529)
	want := Field{ID: 0x40, Inner: Command{Kind: api.CmdW, WCC: 0xC3, Orders: []api.Order{{Data: data}}}}
	within := append(unhex("40 00 F1 C3"), data...)
	wantFields(t, slices.Concat(long(within), unhex("00 04 03 00")), []Field{want, {ID: 3}}, api.OK)
	want.Inner.Orders[0].Data = append(data, 0xC2, 0xC3)
	wantFields(t, open(append(within, 0xC2, 0xC3)), []Field{want}, api.OK)
	many := bytes.Repeat(unhex("00 04 03 80"), 100000)
	if c, e := Parse(append([]byte{0xF3}, many...)); len(c.Fields) != 100000 || c.Err != api.OK || e != api.OK {
		t.Fatalf("%d fields, %d, %d", len(c.Fields), c.Err, e)
	}
	// Fields in fields may not stand there, however deep they go: each is told by its first bytes.
	deep := append([]byte{0xF3}, []byte(strings.Repeat("\x00\x00\x40\x00\xF3", 4000000))...)
	wantParse(t, deep, Command{Kind: api.CmdWSF, Err: api.ErrStruct}, api.OK)
}

func TestParseMemory(t *testing.T) { // P13.1: bytes are neither changed nor kept, and no two lists share memory
	for _, in := range []string{
		"F5 C3 C1 C2 29 01 42 F2 C3 2C 01 41 F1 C4",
		"F3 00 0C 40 00 F1 C3 C1 29 01 42 F2 C2 00 04 03 80 00 0B 40 00 F5 C3 C1 28 41 F1 C2",
	} {
		b := append(unhex(in), 0x77, 0x77)[:len(unhex(in))]
		was := slices.Clone(b[:cap(b)])
		first, e := Parse(b)
		if e != api.OK || !bytes.Equal(b[:cap(b)], was) {
			t.Fatalf("%s: %d, the bytes are % X", in, e, b[:cap(b)])
		}
		want := words(first)
		for i := range b[:cap(b)] {
			b[:cap(b)][i] = 0xEE
		}
		if words(first) != want {
			t.Fatalf("%s: what is handed in was kept", in)
		}
		second, _ := Parse(unhex(in))
		scratch(&first)
		if words(second) != want {
			t.Fatalf("%s: two answers share memory", in)
		}
		lists := slices.Clone(second.Orders)
		for _, f := range second.Fields {
			lists = append(lists, f.Inner.Orders...)
		}
		for i, o := range lists {
			others := words(Command{Orders: slices.Delete(slices.Clone(lists), i, i+1)})
			fill(o)
			if words(Command{Orders: slices.Delete(slices.Clone(lists), i, i+1)}) != others {
				t.Fatalf("%s: order %d shares memory with another one", in, i)
			}
		}
	}
}

// fill writes over an order's lists, spare room too.
func fill(o api.Order) {
	for i := range o.Data[:cap(o.Data)] {
		o.Data[:cap(o.Data)][i] = 0xEE
	}
	for i := range o.Pairs[:cap(o.Pairs)] {
		o.Pairs[:cap(o.Pairs)][i] = api.Pair{Type: 0xEE, Value: 0xEE}
	}
}

// scratch writes over all lists of a command, spare room too.
func scratch(c *Command) {
	for i := range c.Orders[:cap(c.Orders)] {
		fill(c.Orders[:cap(c.Orders)][i])
		c.Orders[:cap(c.Orders)][i] = api.Order{Kind: 0xEE}
	}
	for i := range c.Fields[:cap(c.Fields)] {
		scratch(&c.Fields[:cap(c.Fields)][i].Inner)
		c.Fields[:cap(c.Fields)][i] = Field{ID: 0xEE}
	}
}

func TestParseFields(t *testing.T) { // P13.1: nothing stands in a command that isn't its kind's
	r := rand.New(rand.NewSource(3))
	for range 60000 {
		b := make([]byte, r.Intn(14))
		for i := range b {
			b[i] = []byte{0, 1, 3, 5, 0x11, 0x40, 0x6F, 0xF1, byte(r.Intn(256))}[r.Intn(9)]
		}
		c, e := Parse(b)
		switch {
		case e != api.OK && words(c) != words(Command{}):
			t.Fatalf("Parse(% X) = %s, %d", b, words(c), e)
		case c.Kind != api.CmdWSF && len(c.Fields) > 0, !hasOrders(c.Kind) && (len(c.Orders) > 0 || c.WCC != 0):
			t.Fatalf("Parse(% X) = %s", b, words(c))
		}
		for _, f := range c.Fields {
			if !asSaid(f) || len(f.Inner.Fields) > 0 || f.ID != 0x40 && words(f.Inner) != words(Command{}) {
				t.Fatalf("Parse(% X) = %s", b, words(c))
			}
		}
	}
}
