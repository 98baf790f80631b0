package command

import (
	"encoding/hex"
	"fmt"
	"math/rand"
	"slices"
	"strings"
	"testing"

	"greenscreen/api"
	"greenscreen/order"
)

// kind is a command's two forms, and its name.
type kind struct {
	first, second byte
	name          string
}

// kinds is the chapter's list of commands.
var kinds = []kind{
	{0xF1, 0x01, "W"}, {0xF5, 0x05, "EW"}, {0x7E, 0x0D, "EWA"}, {0x6F, 0x0F, "EAU"},
	{0xF2, 0x02, "RB"}, {0xF6, 0x06, "RM"}, {0x6E, 0x0E, "RMA"}, {0xF3, 0x11, "WSF"},
}

// writes is the kinds with a WCC; silent is those behind which nothing counts.
var (
	writes = kinds[:3]
	silent = kinds[3:7]
)

// unhex is the bytes of a text in sixteens, blanks between them or not.
func unhex(s string) []byte {
	out, err := hex.DecodeString(strings.ReplaceAll(s, " ", ""))
	if err != nil {
		panic(err)
	}
	return out
}

// words is a command in words that tell all of it.
func words(c Command) string {
	out := fmt.Sprintf("%02x %02x %d", c.Kind, c.WCC, c.Err)
	for _, o := range c.Orders {
		out += fmt.Sprintf(" (%02x %d %02x %t %x %x)", o.Kind, o.Addr, o.Byte, o.GE, o.Pairs, o.Data)
	}
	for _, f := range c.Fields {
		out += fmt.Sprintf(" [%02x %02x %s]", f.ID, f.Op, words(f.Inner))
	}
	return out
}

// copied is a command that shares nothing with the one handed in.
func copied(c Command) Command {
	c.Orders = slices.Clone(c.Orders)
	for i := range c.Orders {
		c.Orders[i].Pairs, c.Orders[i].Data = slices.Clone(c.Orders[i].Pairs), slices.Clone(c.Orders[i].Data)
	}
	c.Fields = slices.Clone(c.Fields)
	for i := range c.Fields {
		c.Fields[i].Inner = copied(c.Fields[i].Inner)
	}
	return c
}

// someOrders is orders that can be written on a screen of 1920 cells, and that are parsed as they are.
func someOrders(r *rand.Rand) []api.Order {
	all := []api.Order{
		{Kind: api.OrderPT}, {Kind: api.OrderIC}, {Kind: api.OrderGE, Byte: 0xAD},
		{Kind: api.OrderSBA, Addr: r.Intn(1920)}, {Kind: api.OrderEUA, Addr: r.Intn(1920)},
		{Kind: api.OrderSF, Byte: byte(r.Intn(64))}, {Kind: api.OrderRA, Addr: r.Intn(1920), Byte: 0xC1, GE: r.Intn(2) == 0},
		{Kind: api.OrderSA, Pairs: []api.Pair{{Type: 0x41, Value: byte(r.Intn(256))}}},
		{Kind: api.OrderSFE, Pairs: []api.Pair{{Type: 0xC0, Value: 0x20}, {Type: 0x42, Value: 0xF2}}},
		{Kind: api.OrderMF}, {Data: []byte{0xC1, 0x00, byte(0x40 + r.Intn(0xC0))}},
	}
	var out []api.Order
	for range r.Intn(5) {
		o := all[r.Intn(len(all))]
		if last := len(out) - 1; o.Kind == api.OrderData && last >= 0 && out[last].Kind == o.Kind {
			continue // Data that follows Data is parsed as one
		}
		out = append(out, o)
	}
	return copied(Command{Orders: out}).Orders
}

// someCommand is a command that can be written, with nothing that isn't its kind's.
func someCommand(r *rand.Rand) Command {
	c := Command{Kind: kinds[r.Intn(len(kinds))].first}
	if r.Intn(2) == 0 {
		c.Kind = api.CmdWSF
	}
	switch c.Kind {
	case api.CmdW, api.CmdEW, api.CmdEWA:
		c.WCC, c.Orders = byte(r.Intn(256)), someOrders(r)
	case api.CmdWSF:
		for range r.Intn(5) {
			c.Fields = append(c.Fields, someField(r))
		}
	}
	return c
}

// someField is a field that can be written, with nothing that isn't its kind's.
func someField(r *rand.Rand) Field {
	switch r.Intn(3) {
	case 0:
		return Field{ID: 0x01, Op: []byte{0x02, 0xF2, 0xF6, 0x6E}[r.Intn(4)]}
	case 1:
		return Field{ID: 0x03, Op: []byte{0, 0x80}[r.Intn(2)]}
	}
	f := Field{ID: 0x40, Inner: Command{Kind: kinds[r.Intn(4)].first}}
	if f.Inner.Kind != api.CmdEAU {
		f.Inner.WCC, f.Inner.Orders = byte(r.Intn(256)), someOrders(r)
	}
	return f
}

func TestName(t *testing.T) { // P13.1: of all 256 bytes
	want := map[byte]string{}
	for _, k := range kinds {
		want[k.first], want[k.second] = k.name, k.name
	}
	if len(want) != 16 {
		t.Fatalf("%d forms", len(want))
	}
	for b := range 256 {
		if got := Name(byte(b)); got != want[byte(b)] {
			t.Errorf("Name(%02X) = %q, not %q", b, got, want[byte(b)])
		}
	}
}

func TestBits(t *testing.T) { // P13.1: every WCC, each bit alone and with others
	for b := range 256 {
		wcc := byte(b)
		if Alarm(wcc) != (b/4%2 == 1) || Restore(wcc) != (b/2%2 == 1) || Clean(wcc) != (b%2 == 1) {
			t.Errorf("%02X: %t %t %t", b, Alarm(wcc), Restore(wcc), Clean(wcc))
		}
	}
	if Alarm(0xC3) || !Restore(0xC3) || !Clean(0xC3) {
		t.Error("the chapter's example: C3 is restore, clean")
	}
}

// sorts is commands none of which is the same as another one.
var sorts = []Command{
	{}, {Kind: 1}, {WCC: 1}, {Err: 1}, {Orders: []api.Order{{}}}, {Fields: []Field{{}}},
	{Kind: api.CmdW}, {Kind: 0x01, WCC: 1}, {Kind: api.CmdW, WCC: 1}, {Kind: api.CmdW, WCC: 2}, {Kind: api.CmdEW, WCC: 1},
	{Kind: api.CmdW, Err: api.ErrShort}, {Kind: api.CmdW, Err: api.ErrOrder}, {Kind: api.CmdWSF, Err: api.ErrStruct}, {Kind: api.CmdWSF},
	{Kind: api.CmdW, Orders: []api.Order{{}}}, {Kind: api.CmdW, Orders: []api.Order{{}, {}}},
	{Kind: api.CmdW, Orders: []api.Order{{Data: []byte{1}}}}, {Kind: api.CmdW, Orders: []api.Order{{Data: []byte{2}}}},
	{Kind: api.CmdW, Orders: []api.Order{{Data: []byte{1}}, {Data: []byte{2}}}}, {Kind: api.CmdW, Orders: []api.Order{{Data: []byte{2}}, {Data: []byte{1}}}}, {Kind: api.CmdW, Orders: []api.Order{{Data: []byte{1, 2}}}},
	{Kind: api.CmdW, Orders: []api.Order{{Kind: api.OrderSFE, Pairs: []api.Pair{{Type: 1}}}}}, {Kind: api.CmdW, Orders: []api.Order{{Kind: api.OrderSFE, Pairs: []api.Pair{{Value: 1}}}}},
	{Kind: api.CmdWSF, Fields: []Field{{}}}, {Kind: api.CmdWSF, Fields: []Field{{}, {}}},
	{Kind: api.CmdWSF, Fields: []Field{{ID: 1}}}, {Kind: api.CmdWSF, Fields: []Field{{Op: 1}}},
	{Kind: api.CmdWSF, Fields: []Field{{ID: 1, Op: 2}}}, {Kind: api.CmdWSF, Fields: []Field{{ID: 1, Op: 0xF2}}}, {Kind: api.CmdWSF, Fields: []Field{{ID: 3, Op: 2}}},
	{Kind: api.CmdWSF, Fields: []Field{{ID: 1, Op: 2}, {ID: 3}}}, {Kind: api.CmdWSF, Fields: []Field{{ID: 3}, {ID: 1, Op: 2}}},
	{Kind: api.CmdWSF, Fields: []Field{{Inner: Command{Kind: api.CmdW}}}}, {Kind: api.CmdWSF, Fields: []Field{{Inner: Command{Kind: api.CmdEW}}}},
	{Kind: api.CmdWSF, Fields: []Field{{Inner: Command{WCC: 1}}}}, {Kind: api.CmdWSF, Fields: []Field{{Inner: Command{Err: 1}}}}, {Kind: api.CmdWSF, Fields: []Field{{Inner: Command{Orders: []api.Order{{}}}}}},
	{Kind: api.CmdWSF, Fields: []Field{{Inner: Command{Orders: []api.Order{{Addr: 1}}}}}},
	{Kind: api.CmdWSF, Fields: []Field{{Inner: Command{Fields: []Field{{}}}}}}, {Kind: api.CmdWSF, Fields: []Field{{Inner: Command{Fields: []Field{{ID: 1}}}}}},
	{Kind: api.CmdWSF, Fields: []Field{{Inner: Command{Fields: []Field{{}}}}, {}}}, {Kind: api.CmdWSF, Fields: []Field{{}, {Inner: Command{Fields: []Field{{}}}}}},
	{Kind: api.CmdWSF, Fields: []Field{{Inner: Command{Fields: []Field{{Inner: Command{WCC: 1}}}}}}}, {Kind: api.CmdWSF, Fields: []Field{{Inner: Command{Fields: []Field{{Inner: Command{WCC: 2}}}}}}},
}

func TestSame(t *testing.T) { // P13.1: each part counts, both ways
	for i, a := range sorts {
		for j, b := range sorts {
			if Same(a, b) != (i == j) || Same(copied(a), b) != (i == j) {
				t.Errorf("Same(%s, %s) = %t", words(a), words(b), i != j)
			}
		}
	}
	none := Command{Orders: []api.Order{}, Fields: []Field{}}
	empty := Command{Orders: []api.Order{{Pairs: []api.Pair{}, Data: []byte{}}}, Fields: []Field{{Inner: none}}}
	full := Command{Orders: []api.Order{{}}, Fields: []Field{{}}}
	if !Same(none, Command{}) || !Same(Command{}, none) || !Same(empty, full) || !Same(full, empty) {
		t.Error("a list that is nil and one that is empty aren't the same")
	}
}

func TestSameByWords(t *testing.T) { // P13.1: two that tell the same are the same, and no others
	r := rand.New(rand.NewSource(13))
	for range 20000 {
		a, b := someCommand(r), someCommand(r)
		if r.Intn(2) == 0 {
			b = copied(a)
			if len(b.Fields) > 0 && r.Intn(2) == 0 {
				b.Fields[r.Intn(len(b.Fields))] = someField(r)
			}
		}
		if want := words(a) == words(b); Same(a, b) != want || Same(b, a) != want {
			t.Fatalf("%s, %s: %t %t, not %t", words(a), words(b), Same(a, b), Same(b, a), want)
		}
	}
}

// nested is a command of fields in fields, so many deep, with this one in the last.
func nested(deep int, last Command) Command {
	for range deep {
		last = Command{Kind: api.CmdWSF, Fields: []Field{{ID: 0x40, Inner: last}}}
	}
	return last
}

func TestSameDeep(t *testing.T) { // P13.1: it ends, however deep fields stand in fields
	a := nested(1500000, Command{WCC: 1})
	if !Same(a, nested(1500000, Command{WCC: 1})) || Same(nested(1500000, Command{WCC: 2}), a) {
		t.Error("fields in fields, very deep")
	}
	for deep := range 40 {
		a := nested(deep, Command{WCC: 1})
		for other := range 40 {
			if b := nested(other, Command{WCC: 1}); Same(a, b) != (deep == other) {
				t.Errorf("%d deep, %d deep: %t", deep, other, Same(a, b))
			}
		}
	}
}

// ring is a command whose fields stand in themselves, by way of so many lists; the first has this Op.
func ring(many int, op byte) Command {
	lists := make([][]Field, many)
	for i := range lists {
		lists[i] = []Field{{ID: 0x40}, {ID: 0x40}}
	}
	lists[0][0].Op = op
	for i := range lists {
		lists[i][0].Inner.Fields, lists[i][1].Inner.Fields = lists[(i+1)%many], lists[(i+1)%many]
	}
	return Command{Fields: lists[0]}
}

func TestSameRing(t *testing.T) { // P13.1: it ends, when a list stands within itself
	a := ring(1, 0)
	if !Same(a, a) || !Same(a, ring(1, 0)) || !Same(ring(2, 0), ring(3, 0)) || !Same(ring(40, 1), ring(40, 1)) {
		t.Error("rings that are the same")
	}
	if Same(a, ring(1, 1)) || Same(ring(2, 1), ring(3, 1)) || Same(ring(40, 0), ring(40, 1)) || Same(a, Command{}) {
		t.Error("rings that aren't the same")
	}
	// Lists that begin at one place, but aren't as long.
	one, two := []Field{{ID: 1}, {ID: 2}}, []Field{{ID: 1}, {ID: 3}}
	both := func(l []Field) Command {
		return Command{Fields: []Field{{Inner: Command{Fields: l[:1]}}, {Inner: Command{Fields: l}}}}
	}
	if Same(both(one), both(two)) || !Same(both(one), both(slices.Clone(one))) {
		t.Error("lists that share their beginning")
	}
	// Shared all the way down, it is of 2^60 fields.
	wide := []Field{{}, {}}
	for range 60 {
		wide = []Field{{Inner: Command{Fields: wide}}, {Inner: Command{Fields: wide}}}
	}
	if !Same(Command{Fields: wide}, Command{Fields: wide}) {
		t.Error("a list that is shared")
	}
}

func TestSameTurnsNothing(t *testing.T) { // P13.1: what is handed in isn't changed
	a := copied(sorts[len(sorts)-1])
	a.Orders = []api.Order{{Data: []byte{1}, Pairs: []api.Pair{{Type: 1}}}}
	b, want := copied(a), words(a)
	if !Same(a, b) || words(a) != want || words(b) != want {
		t.Errorf("%s, %s", words(a), words(b))
	}
}

// ordersOf is layer 12's orders of bytes.
func ordersOf(b []byte) ([]api.Order, api.Errno) {
	os, _, e := order.Parse(b)
	return os, e
}
