package paint

import (
	"math"
	"math/rand"
	"slices"
	"testing"

	"greenscreen/api"
	"greenscreen/plane"
)

// drawing is orders done on a plane, and what it is then: at is the place behind them.
type drawing struct {
	name   string
	before string
	from   int
	os     []api.Order
	after  string
	at     int
	done   int
	e      api.Errno
}

// wantDrawings tells what isn't as drawn. The cursor stands at the last place: none of them turns it.
func wantDrawings(t *testing.T, all []drawing) {
	t.Helper()
	for _, d := range all {
		p := laid(t, d.before)
		p.Point(p.Len() - 1)
		at, done, e := Paint(p, d.os, d.from)
		if got := drawn(p); got != d.after || at != d.at || done != d.done || e != d.e {
			t.Errorf("%s: %q, place %d, %d done, %d; not %q, %d, %d, %d", d.name, got, at, done, e, d.after, d.at, d.done, d.e)
		}
		if p.Cursor() != p.Len()-1 {
			t.Errorf("%s: the cursor is at %d", d.name, p.Cursor())
		}
	}
}

func TestExample(t *testing.T) { // P16.1
	p := laid(t, ".....")
	at, done, e := Paint(p, []api.Order{sba(3), sf(0x20), data(0xC1)}, 0)
	if drawn(p) != "...[A" || at != 0 || done != 3 || e != api.OK || p.Cursor() != 0 {
		t.Errorf("%q %d %d %d", drawn(p), at, done, e)
	}
}

func TestFromNoPlace(t *testing.T) { // P16.1: nothing is done, whatever the orders are
	for _, s := range append(slices.Clone(sizes), great...) {
		p := sized(t, s)
		strew(rand.New(rand.NewSource(1)), p, func(at int) bool { return at%3 == 1 })
		was := formOf(p)
		for _, from := range noPlaces(p.Len()) {
			if from >= 0 && from < p.Len() {
				continue
			}
			for _, os := range [][]api.Order{nil, {}, {ic}, {sba(0), data(0xC1)}, {{Kind: 0xFF}}, {sba(-1)}, {mf()}} {
				if at, done, e := Paint(p, os, from); at != 0 || done != 0 || e != api.ErrAddress {
					t.Errorf("from %d of %d, %v: %d %d %d", from, p.Len(), os, at, done, e)
				}
				wantForm(t, p, was, "from no place")
			}
		}
	}
}

func TestNoOrders(t *testing.T) { // P16.1: the place is the one that was handed in, nothing is turned
	eachPlane(t, func(_ *rand.Rand, p *plane.Plane) {
		was := formOf(p)
		for from := range p.Len() {
			for _, os := range [][]api.Order{nil, {}} {
				if at, done, e := Paint(p, os, from); at != from || done != 0 || e != api.OK {
					t.Fatalf("from %d of %d: %d %d %d", from, p.Len(), at, done, e)
				}
				wantForm(t, p, was, "no orders")
			}
		}
	})
}

func TestEachKindAlone(t *testing.T) { // P16.1: at each place, the first and the last one too, on each plane
	eachPlane(t, func(r *rand.Rand, p *plane.Plane) {
		for _, kind := range kinds {
			for from := range p.Len() {
				hold(t, p, []api.Order{someOrder(r, kind, p.Len())}, from)
			}
		}
	})
}

func TestNoKind(t *testing.T) { // P16.1: what stands ahead is done, nothing behind it is
	for kind := range 256 {
		if slices.Contains(kinds, byte(kind)) {
			continue
		}
		none := api.Order{Kind: byte(kind), Addr: 1, Byte: 0xC9, GE: true, Data: []byte{0xC9}, Pairs: []api.Pair{{Type: 0xC0, Value: 1}}}
		wantDrawings(t, []drawing{
			{"alone", "A(B[.", 4, []api.Order{none}, "A(B[.", 4, 0, api.ErrOrder},
			{"ahead of others", "A(B[.", 2, []api.Order{none, data(0xC4), ic}, "A(B[.", 2, 0, api.ErrOrder},
			{"behind others", "A(B[.", 3, []api.Order{data(0xC4, 0xC5), sf(0), none}, "((BDE", 1, 2, api.ErrOrder},
			{"between others", "A(B[.", 2, []api.Order{sba(4), data(0xC4), none, data(0xC5), ic, pt, sba(3)}, "A(B[D", 0, 2, api.ErrOrder},
			{"behind one, twice", "A(B[.", 0, []api.Order{data(0xC4), none, none}, "D(B[.", 1, 1, api.ErrOrder},
		})
	}
}

func TestData(t *testing.T) { // P16.1
	wantDrawings(t, []drawing{
		{"no bytes", "A(B", 1, []api.Order{data()}, "A(B", 1, 1, api.OK},
		{"no bytes at the last place", "A(B", 2, []api.Order{{}}, "A(B", 2, 1, api.OK},
		{"one", "A(B", 0, []api.Order{data(0xC3)}, "C(B", 1, 1, api.OK},
		{"one over an attribute", "A(B", 1, []api.Order{data(0xC3)}, "ACB", 2, 1, api.OK},
		{"one at the last place", "A(B", 2, []api.Order{data(0xC3)}, "A(C", 0, 1, api.OK},
		{"over one of GE", "aab", 1, []api.Order{data(0xC3)}, "aCb", 2, 1, api.OK},
		{"zero", "ABC", 1, []api.Order{data(0)}, "A.C", 2, 1, api.OK},
		{"round the end", "ABC", 2, []api.Order{data(0xC4, 0xC5)}, "EBD", 1, 1, api.OK},
		{"as many as there are", "ABC", 1, []api.Order{data(0xC4, 0xC5, 0xC6)}, "FDE", 1, 1, api.OK},
		{"more than there are", "ABC", 1, []api.Order{data(0xC4, 0xC5, 0xC6, 0xC7)}, "FGE", 2, 1, api.OK},
		{"on one cell", "A", 0, []api.Order{data(0xC4, 0xC5)}, "E", 0, 1, api.OK},
		{"in protected fields", "[AB", 1, []api.Order{data(0xC4, 0xC5, 0xC6)}, "FDE", 1, 1, api.OK},
		{"one behind another one", "ABC", 0, []api.Order{data(0xC4), data(), data(0xC5)}, "DEC", 2, 3, api.OK},
		{"GE", "ABC", 1, []api.Order{ge(0xC4)}, "AdC", 2, 1, api.OK},
		{"GE at the last place", "A([", 2, []api.Order{ge(0xC4), ge(0xC5)}, "e(d", 1, 2, api.OK},
		{"GE ahead of data", "ABC", 0, []api.Order{ge(0xC4), data(0xC5)}, "dEC", 2, 2, api.OK},
	})
}

func TestEachByte(t *testing.T) { // P16.1: layer 12 says which may stand in bytes; here each is laid
	for b := range 256 {
		for _, c := range []struct {
			o    api.Order
			want api.Cell
		}{
			{data(byte(b)), api.Cell{Byte: byte(b)}},
			{ge(byte(b)), api.Cell{Byte: byte(b), GE: true}},
			{ra(2, byte(b)), api.Cell{Byte: byte(b)}},
			{rage(2, byte(b)), api.Cell{Byte: byte(b), GE: true}},
			{sf(byte(b)), api.Cell{Byte: byte(b) % 64, Start: true}},
			{sfe(0xC0, byte(b)), api.Cell{Byte: byte(b) % 64, Start: true}},
			{sfe(0x41, byte(b)), api.Cell{Light: byte(b), Start: true}},
			{sfe(0x42, byte(b)), api.Cell{Color: byte(b), Start: true}},
		} {
			p := laid(t, "ab]")
			p.Set(1, api.Cell{Byte: 0xFF, GE: true, Start: true, Light: 1, Color: 2})
			at, done, e := Paint(p, []api.Order{c.o}, 1)
			if p.At(1) != c.want || at != 2 || done != 1 || e != api.OK || p.At(0) != cellOf('a') || p.At(2) != cellOf(']') {
				t.Errorf("%v: %v, %d %d %d", c.o, p.At(1), at, done, e)
			}
		}
	}
}

// wantCells does orders from 0 on and tells which of the first cells isn't as said.
func wantCells(t *testing.T, p *plane.Plane, os []api.Order, want ...api.Cell) {
	t.Helper()
	if _, done, e := Paint(p, os, 0); done != len(os) || e != api.OK {
		t.Fatalf("%v: %d %d", os, done, e)
	}
	for at, c := range want {
		if p.At(at) != c {
			t.Errorf("%v: the cell at %d is %v, not %v", os, at, p.At(at), c)
		}
	}
}

func TestLook(t *testing.T) { // P16.1: SA's, on DATA, GE and RA alone
	const a, b, l, c = 0xC1, 0xC2, 0xF2, 0xF4
	plain, lit := api.Cell{Byte: a}, api.Cell{Byte: a, Light: l}
	both := api.Cell{Byte: a, Light: l, Color: c}
	colored := api.Cell{Byte: a, Color: c}
	wantCells(t, laid(t, "..."), []api.Order{data(a), sa(0x41, l), data(a)}, plain, lit, api.Cell{})
	wantCells(t, laid(t, "..."), []api.Order{sa(0x42, c), data(a, a)}, colored, colored, api.Cell{})
	wantCells(t, laid(t, "..."), []api.Order{sa(0x41, l), sa(0x42, c), data(a)}, both, api.Cell{})
	wantCells(t, laid(t, "..."), []api.Order{sa(0x41, l, 0x42, c), data(a), sa(0, 0), data(a)}, both, plain)
	wantCells(t, laid(t, "..."), []api.Order{sa(0x41, 1, 0x41, l), data(a), sa(0x41, 0), data(a)}, lit, plain)
	wantCells(t, laid(t, "..."), []api.Order{sa(0x41, l, 0x42, c), sa(), data(a), sa(0x43, 9), data(a)}, both, both)
	// An attribute is no part of the look.
	wantCells(t, laid(t, "..."), []api.Order{sa(0x41, l, 0xC0, 0x3F), data(a)}, lit, api.Cell{})
	// It stays through whatever stands between.
	wantCells(t, laid(t, "...."), []api.Order{sa(0x41, l), sf(0), ic, sba(2), pt, eua(1), sba(2), data(a)}, api.Cell{Start: true}, api.Cell{}, lit, api.Cell{})
	wantCells(t, laid(t, "..."), []api.Order{sa(0x41, l), ge(b), data(a)}, api.Cell{Byte: b, GE: true, Light: l}, lit)
	wantCells(t, laid(t, "..."), []api.Order{sa(0x42, c), ra(2, a), rage(0, b)}, colored, colored, api.Cell{Byte: b, GE: true, Color: c})
}

func TestLookIsOfOneCall(t *testing.T) { // P16.1: at first it is 0, whatever another call left
	p := laid(t, "...")
	wantCells(t, p, []api.Order{sa(0x41, 0xF2, 0x42, 0xF4)}, api.Cell{})
	wantCells(t, p, []api.Order{data(0xC1), ge(0xC2), ra(0, 0xC3)}, api.Cell{Byte: 0xC1}, api.Cell{Byte: 0xC2, GE: true}, api.Cell{Byte: 0xC3})
	// What stood there goes, too.
	wantCells(t, p, []api.Order{sa(0x41, 0xF2, 0x42, 0xF4), data(0xC1)}, api.Cell{Byte: 0xC1, Light: 0xF2, Color: 0xF4})
	wantCells(t, p, []api.Order{data(0xC1)}, api.Cell{Byte: 0xC1})
}

func TestLookIsNoAttributes(t *testing.T) { // P16.1: SF, SFE, MF, EUA and PT take nothing of it
	look := sa(0x41, 0xF2, 0x42, 0xF4)
	wantCells(t, laid(t, "..."), []api.Order{look, sf(0x30)}, api.Cell{Start: true, Byte: 0x30})
	wantCells(t, laid(t, "..."), []api.Order{look, sfe(0xC0, 0x30)}, api.Cell{Start: true, Byte: 0x30})
	wantCells(t, laid(t, "(.."), []api.Order{look, mf(0xC0, 0x30)}, api.Cell{Start: true, Byte: 0x30})
	wantCells(t, laid(t, "ABC"), []api.Order{look, eua(0)}, api.Cell{}, api.Cell{}, api.Cell{})
	wantCells(t, laid(t, "ABC"), []api.Order{look, data(0xC4), pt}, api.Cell{Byte: 0xC4, Light: 0xF2, Color: 0xF4}, api.Cell{}, api.Cell{})
}

func TestAttributes(t *testing.T) { // P16.1: SF and SFE, of what stood there nothing stays
	was := api.Cell{Byte: 0xFF, GE: true, Start: true, Light: 0xF2, Color: 0xF4}
	for _, c := range []struct {
		o    api.Order
		want api.Cell
	}{
		{sf(0), api.Cell{Start: true}},
		{sf(0xF1), api.Cell{Start: true, Byte: 0x31}},
		{sf(0xC0), api.Cell{Start: true}},
		{sfe(), api.Cell{Start: true}},
		{sfe(0xC0, 0xE8), api.Cell{Start: true, Byte: 0x28}},
		{sfe(0x41, 0xF1), api.Cell{Start: true, Light: 0xF1}},
		{sfe(0x42, 0xF5), api.Cell{Start: true, Color: 0xF5}},
		{sfe(0x42, 0xF5, 0xC0, 0x21, 0x41, 0xF1), api.Cell{Start: true, Byte: 0x21, Light: 0xF1, Color: 0xF5}},
		{sfe(0xC0, 0x21, 0xC0, 0x01), api.Cell{Start: true, Byte: 0x01}},
		{sfe(0x41, 1, 0x41, 2, 0x42, 3, 0x42, 4), api.Cell{Start: true, Light: 2, Color: 4}},
		{sfe(0x41, 1, 0xC0, 5, 0, 0), api.Cell{Start: true, Byte: 5}},
		{sfe(0x43, 1, 0xFF, 2), api.Cell{Start: true}},
	} {
		for at := range 3 {
			p := laid(t, "A.b")
			p.Set(at, was)
			want := formOf(p)
			want.cells[at] = c.want
			next, done, e := Paint(p, []api.Order{c.o}, at)
			if next != (at+1)%3 || done != 1 || e != api.OK {
				t.Errorf("%v at %d: %d %d %d", c.o, at, next, done, e)
			}
			wantForm(t, p, want, "an attribute")
		}
	}
}

func TestModify(t *testing.T) { // P16.1: MF at an attribute; what no pair names stays
	was := api.Cell{Byte: 0xE5, Start: true, Light: 0xF2, Color: 0xF4}
	for _, c := range []struct {
		o    api.Order
		want api.Cell
	}{
		{mf(), was},
		{mf(0xC0, 0xF0), api.Cell{Byte: 0x30, Start: true, Light: 0xF2, Color: 0xF4}},
		{mf(0x41, 0xF1), api.Cell{Byte: 0xE5, Start: true, Light: 0xF1, Color: 0xF4}},
		{mf(0x42, 0xF1), api.Cell{Byte: 0xE5, Start: true, Light: 0xF2, Color: 0xF1}},
		{mf(0x42, 1, 0x42, 2, 0xC0, 3, 0xC0, 4), api.Cell{Byte: 4, Start: true, Light: 0xF2, Color: 2}},
		{mf(0, 0), api.Cell{Byte: 0xE5, Start: true}},
		{mf(0x43, 1), was},
	} {
		for at := range 3 {
			p := laid(t, "A.b")
			p.Set(at, was)
			want := formOf(p)
			want.cells[at] = c.want
			next, done, e := Paint(p, []api.Order{c.o}, at)
			if next != (at+1)%3 || done != 1 || e != api.OK {
				t.Errorf("%v at %d: %d %d %d", c.o, at, next, done, e)
			}
			wantForm(t, p, want, "MF")
		}
	}
}

func TestModifyNoAttribute(t *testing.T) { // P16.1: MF where none is
	wantDrawings(t, []drawing{
		{"alone", "A(.", 0, []api.Order{mf()}, "A(.", 0, 0, api.ErrOrder},
		{"at the last place", "A(.", 2, []api.Order{mf(0xC0, 1), data(0xC4)}, "A(.", 2, 0, api.ErrOrder},
		{"behind one where one is", "A(.", 1, []api.Order{mf(0xC0, 1), mf(0xC0, 1), data(0xC4)}, "A).", 2, 1, api.ErrOrder},
		{"several, one behind the other", "(([", 0, []api.Order{mf(0xC0, 1), mf(0xC0, 0x20), mf(0xC0, 0x21)}, ")[]", 0, 3, api.OK},
		{"where SF put one", "A.B", 1, []api.Order{sf(0), sba(1), mf(0xC0, 1)}, "A)B", 2, 3, api.OK},
		{"where one was", "A(B", 1, []api.Order{data(0xC4), sba(1), mf(0xC0, 1)}, "ADB", 1, 2, api.ErrOrder},
	})
}

func TestCursor(t *testing.T) { // P16.1: IC, at each place; the last one counts
	eachPlane(t, func(_ *rand.Rand, p *plane.Plane) {
		was := formOf(p)
		for at := range p.Len() {
			was.cursor = at
			if next, done, e := Paint(p, []api.Order{ic}, at); next != at || done != 1 || e != api.OK {
				t.Fatalf("IC at %d of %d: %d %d %d", at, p.Len(), next, done, e)
			}
			wantForm(t, p, was, "IC")
		}
	})
	p := laid(t, "....")
	if _, _, e := Paint(p, []api.Order{sba(3), ic, sba(1), ic, data(0xC1), {Kind: 1}, ic}, 0); e != api.ErrOrder || p.Cursor() != 1 {
		t.Errorf("the cursor is at %d", p.Cursor())
	}
}

func TestToEachPlace(t *testing.T) { // P16.1: SBA, RA and EUA from each place to each, to itself, round the end
	eachPlane(t, func(r *rand.Rand, p *plane.Plane) {
		if p.Len() > 6 {
			return
		}
		for from := range p.Len() {
			for to := range p.Len() {
				b := byte(r.Intn(256))
				for _, o := range []api.Order{sba(to), ra(to, b), rage(to, b), eua(to)} {
					if _, at, done, e := hold(t, p, []api.Order{o}, from); at != to || done != 1 || e != api.OK {
						t.Fatalf("%v from %d of %d: %d %d %d", o, from, p.Len(), at, done, e)
					}
				}
			}
		}
	})
}

func TestToNoPlace(t *testing.T) { // P16.1: it isn't done, and nothing behind it
	for _, s := range append(slices.Clone(sizes), great...) {
		p := sized(t, s)
		strew(rand.New(rand.NewSource(2)), p, func(at int) bool { return at%4 == 2 })
		for _, to := range noPlaces(p.Len()) {
			if to >= 0 && to < p.Len() {
				continue
			}
			for _, o := range []api.Order{sba(to), ra(to, 0xC1), rage(to, 0xC1), eua(to)} {
				if _, at, done, e := hold(t, p, []api.Order{o, ic, data(0xC1)}, p.Len()-1); at != p.Len()-1 || done != 0 || e != api.ErrAddress {
					t.Errorf("%v on %d cells: %d %d %d", o, p.Len(), at, done, e)
				}
				if _, at, done, e := hold(t, p, []api.Order{data(0xC1), ic, o, sba(0), sf(0)}, 0); at != 1%p.Len() || done != 2 || e != api.ErrAddress {
					t.Errorf("%v behind others on %d cells: %d %d %d", o, p.Len(), at, done, e)
				}
			}
		}
	}
}

func TestRepeatWrittenOut(t *testing.T) { // P16.1
	wantDrawings(t, []drawing{
		{"some", "ABCD", 1, []api.Order{ra(3, 0xC5)}, "AEED", 3, 1, api.OK},
		{"one", "ABCD", 1, []api.Order{ra(2, 0xC5)}, "AECD", 2, 1, api.OK},
		{"all, from the place to itself", "ABCD", 1, []api.Order{ra(1, 0xC5)}, "EEEE", 1, 1, api.OK},
		{"all, at 0", "ABCD", 0, []api.Order{ra(0, 0)}, "....", 0, 1, api.OK},
		{"round the end", "ABCD", 3, []api.Order{ra(1, 0xC5)}, "EBCE", 1, 1, api.OK},
		{"to the end", "ABCD", 2, []api.Order{ra(0, 0xC5)}, "ABEE", 0, 1, api.OK},
		{"over attributes, in protected fields", "([AB", 0, []api.Order{ra(3, 0xC5)}, "EEEB", 3, 1, api.OK},
		{"GE", "([AB", 2, []api.Order{rage(1, 0xC5)}, "e[ee", 1, 1, api.OK},
		{"one behind another one", "ABCD", 0, []api.Order{ra(2, 0xC5), ra(0, 0xC6)}, "EEFF", 0, 2, api.OK},
	})
}

func TestEraseWrittenOut(t *testing.T) { // P16.1 and P16.3
	wantDrawings(t, []drawing{
		{"not formatted", "ABcD", 1, []api.Order{eua(3)}, "A..D", 3, 1, api.OK},
		{"not formatted, all", "ABcD", 2, []api.Order{eua(2)}, "....", 2, 1, api.OK},
		{"not formatted, round the end", "ABcD", 3, []api.Order{eua(1)}, ".Bc.", 1, 1, api.OK},
		{"an open field", "(ABc[DE", 0, []api.Order{eua(6)}, "(...[DE", 6, 1, api.OK},
		{"up to a place in it", "(ABc[DE", 2, []api.Order{eua(3)}, "(A.c[DE", 3, 1, api.OK},
		{"a protected field", "(AB[DEf", 4, []api.Order{eua(6)}, "(AB[DEf", 6, 1, api.OK},
		{"all", "A)B[C(D]E", 4, []api.Order{eua(4)}, "A).[C(.]E", 4, 1, api.OK},
		{"round the end, in the open field that goes round it", "AB[C(DE", 6, []api.Order{eua(1)}, ".B[C(D.", 1, 1, api.OK},
		{"round the end, in the protected field that goes round it", "AB(C[DE", 6, []api.Order{eua(1)}, "AB(C[DE", 1, 1, api.OK},
		{"from an attribute's", "A(B[C", 1, []api.Order{eua(1)}, "A(.[C", 1, 1, api.OK},
		{"up to an attribute's", "A(B(C", 2, []api.Order{eua(3)}, "A(.(C", 3, 1, api.OK},
		{"attributes alone", "([)]", 0, []api.Order{eua(0)}, "([)]", 0, 1, api.OK},
		{"as it is when it is its turn", "ABCD", 0, []api.Order{sf(0x20), eua(0)}, "[BCD", 0, 2, api.OK},
		{"as it is when it is its turn, without a field any more", "[BCD", 0, []api.Order{data(0xC1), eua(0)}, "A...", 0, 2, api.OK},
	})
}

func TestTabWrittenOut(t *testing.T) { // P16.1 and P16.3
	wantDrawings(t, []drawing{
		{"the first order", "AB(CD", 0, []api.Order{pt}, "AB(CD", 3, 1, api.OK},
		{"behind data", "ABC(D", 0, []api.Order{data(0xC4), pt}, "D..(D", 4, 2, api.OK},
		{"behind data without bytes", "ABC(D", 1, []api.Order{data(), pt}, "ABC(D", 4, 2, api.OK},
		{"behind data, and data without bytes", "ABC(D", 0, []api.Order{data(0xC4), data(), pt}, "DBC(D", 4, 3, api.OK},
		{"behind GE", "ABC(D", 0, []api.Order{ge(0xC4), pt}, "d..(D", 4, 2, api.OK},
		{"behind GE of zero", "ABC(D", 0, []api.Order{ge(0), pt}, "?..(D", 4, 2, api.OK},
		{"behind SBA", "ABC(D", 0, []api.Order{data(0xC4), sba(1), pt}, "DBC(D", 4, 3, api.OK},
		{"behind SA", "ABC(D", 0, []api.Order{data(0xC4), sa(0x41, 1), pt}, "DBC(D", 4, 3, api.OK},
		{"behind RA", "ABC(D", 0, []api.Order{ra(1, 0xC4), pt}, "DBC(D", 4, 2, api.OK},
		{"behind EUA", "ABC(D", 0, []api.Order{eua(1), pt}, ".BC(D", 4, 2, api.OK},
		{"behind SF", "ABCD(", 0, []api.Order{sf(0x20), pt}, "[BCD(", 0, 2, api.OK},
		{"behind PT that stood behind data", "AB(C(D", 0, []api.Order{data(0xC4), pt, pt}, "D.(C(D", 5, 3, api.OK},
		{"behind data, with nothing between it and an attribute", "A(B(C", 0, []api.Order{data(0xC4), pt}, "D(B(C", 2, 2, api.OK},
		{"behind data, with no attribute up to the end", "(ABCD", 1, []api.Order{data(0xC5), pt}, "(E...", 0, 2, api.OK},
		{"behind data that came round the end", "ABC(D", 4, []api.Order{data(0xC5), pt}, "...(E", 4, 2, api.OK},
		{"behind data in a protected field", "[ABC(D", 1, []api.Order{data(0xC5), pt}, "[E..(D", 5, 2, api.OK},
		{"on a plane without fields", "ABC", 1, []api.Order{pt}, "ABC", 0, 1, api.OK},
		{"behind data on a plane without fields", "ABC", 0, []api.Order{data(0xC4), pt}, "D..", 0, 2, api.OK},
		{"behind data up to the end of a plane without fields", "ABC", 2, []api.Order{data(0xC4), pt}, "...", 0, 2, api.OK},
		{"over protected fields", "A[B](C", 0, []api.Order{pt}, "A[B](C", 5, 1, api.OK},
		{"behind data, over protected fields", "AB[B](C", 0, []api.Order{data(0xC4), pt}, "D.[B](C", 6, 2, api.OK},
		{"protected fields alone", "A[B]C", 0, []api.Order{pt}, "A[B]C", 0, 1, api.OK},
		{"open fields ahead of the place alone", "A(B]C", 2, []api.Order{pt}, "A(B]C", 0, 1, api.OK},
		{"at an open field's attribute", "A(B(C", 1, []api.Order{pt}, "A(B(C", 2, 1, api.OK},
		{"at a protected field's attribute", "A[B)C", 1, []api.Order{pt}, "A[B)C", 4, 1, api.OK},
		{"a field of no cells", "A()B", 0, []api.Order{pt}, "A()B", 2, 1, api.OK},
		{"an attribute at the last place", "[ABC(", 1, []api.Order{pt}, "[ABC(", 0, 1, api.OK},
		{"at an attribute at the last place", "[ABC)", 4, []api.Order{pt}, "[ABC)", 0, 1, api.OK},
		{"one cell", "(", 0, []api.Order{pt}, "(", 0, 1, api.OK},
	})
}

// someRows tries many rows of any orders on a plane, from any place.
func someRows(t *testing.T, r *rand.Rand, p *plane.Plane, rows, length int) {
	t.Helper()
	for range rows {
		hold(t, p, someRow(r, r.Intn(length), p.Len()), r.Intn(p.Len()+2)-1)
	}
}

func TestRows(t *testing.T) { // P16.1: any orders, one behind the other, held against the chapter's form
	eachPlane(t, func(r *rand.Rand, p *plane.Plane) { someRows(t, r, p, 40, 9) })
	r := rand.New(rand.NewSource(3))
	for _, s := range great {
		for _, one := range []int{0, 1, 2, 7, 100, 1500} {
			p := sized(t, s)
			strew(r, p, func(int) bool { return one > 0 && r.Intn(one) == 0 })
			someRows(t, r, p, 10, 30)
		}
	}
}

func TestBroken(t *testing.T) { // P16.1: what was done ahead stays, and nothing else is turned
	eachPlane(t, func(r *rand.Rand, p *plane.Plane) {
		for range 10 {
			os, from := someRow(r, 8, p.Len()), r.Intn(p.Len())
			whole, at, done, e := hold(t, p, os, from)
			if e == api.OK {
				continue
			}
			ahead := p.Clone()
			atAhead, doneAhead, eAhead := Paint(ahead, os[:done], from)
			if !plane.Same(whole, ahead) || atAhead != at || doneAhead != done || eAhead != api.OK {
				t.Fatalf("%v: %d %d, those ahead of the error alone %d %d %d", os, at, done, atAhead, doneAhead, eAhead)
			}
		}
	})
}

// mayBeCut tells whether orders do the same when they are cut there.
func mayBeCut(os []api.Order, cut int) bool {
	is := func(kind byte) func(api.Order) bool { return func(o api.Order) bool { return o.Kind == kind } }
	return !slices.ContainsFunc(os[:cut], is(api.OrderSA)) && !slices.ContainsFunc(os[cut:], is(api.OrderPT))
}

func TestCut(t *testing.T) { // P16.2: at each place of the row
	cuts := 0
	eachPlane(t, func(r *rand.Rand, p *plane.Plane) {
		for range 4 {
			os, from := someRow(r, 7, p.Len()), r.Intn(p.Len())
			whole := p.Clone()
			at, done, e := Paint(whole, os, from)
			for cut := range len(os) + 1 {
				if !mayBeCut(os, cut) {
					continue
				}
				cuts++
				parts := p.Clone()
				next, first, broken := Paint(parts, os[:cut], from)
				second := 0
				if broken == api.OK {
					next, second, broken = Paint(parts, os[cut:], next)
				}
				if !plane.Same(whole, parts) || next != at || first+second != done || broken != e {
					t.Fatalf("%v from %d, cut at %d: %d %d %d, not %d %d %d", os, from, cut, next, first+second, broken, at, done, e)
				}
			}
		}
	})
	if cuts < 1000 {
		t.Errorf("%d cuts", cuts)
	}
}

func TestCutWhereItMatters(t *testing.T) { // P16.1: the look, and what stood ahead of PT, are of one call alone
	p := laid(t, "ABC(D")
	at, _, _ := Paint(p, []api.Order{sa(0x41, 0xF2), data(0xC4)}, 0)
	Paint(p, []api.Order{pt}, at)
	if drawn(p) != "DBC(D" || p.At(0).Light != 0xF2 {
		t.Errorf("PT alone: %q", drawn(p))
	}
	Paint(p, []api.Order{data(0xC5)}, at)
	if p.At(1) != cellOf('E') {
		t.Errorf("data alone: %v", p.At(1))
	}
}

// wantAttributes tells whether all attributes are as they were, and no cell has become one.
func wantAttributes(t *testing.T, was *form, p *plane.Plane, os []api.Order) {
	t.Helper()
	for at, c := range was.cells {
		if (c.Start || p.At(at).Start) && p.At(at) != c {
			t.Fatalf("%v: the attribute at %d of %q is %v, not %v", os, at, drawn(p), p.At(at), c)
		}
	}
}

func TestEraseAndTabTurnNoAttribute(t *testing.T) { // P16.3: and EUA nothing in protected fields
	eachPlane(t, func(_ *rand.Rand, p *plane.Plane) {
		was := formOf(p)
		for from := range p.Len() {
			for to := range p.Len() {
				if p.Len() > 6 && to%3 != 0 {
					continue
				}
				os := []api.Order{eua(to)}
				got, _, _, _ := hold(t, p, os, from)
				wantAttributes(t, was, got, os)
				for at, c := range was.cells {
					if !was.open(at) && got.At(at) != c {
						t.Fatalf("EUA from %d to %d on %q turned %d", from, to, drawn(p), at)
					}
				}
			}
			// What stands ahead lays a sign, which may be over an attribute.
			for _, ahead := range [][]api.Order{nil, {data(0xC1)}, {ge(0xC1)}, {data()}} {
				half, _, _, _ := hold(t, p, ahead, from)
				os := append(slices.Clone(ahead), pt)
				got, _, _, _ := hold(t, p, os, from)
				wantAttributes(t, formOf(half), got, os)
			}
		}
	})
}

func TestHandedIn(t *testing.T) { // P16.1: orders aren't changed, the memory behind them neither, and not kept
	for _, kind := range append(slices.Clone(kinds), 0x01) {
		bs, ps := []byte{0xC1, 0xC2, 0xC3}, []api.Pair{{Type: 0xC0, Value: 0xFF}, {Type: 0x41, Value: 1}, {Type: 0x42, Value: 2}}
		os := []api.Order{sf(0), sba(0), {Kind: kind, Addr: 2, Byte: 0xF1, GE: true, Data: bs[:2], Pairs: ps[:2]}, ic, data(0xC4)}
		was, wasBytes, wasPairs := orders(os), slices.Clone(bs), slices.Clone(ps)
		p := laid(t, "AB(C")
		Paint(p, os[:4], 0)
		for i := range os {
			if o := os[i]; o.Kind != was[i].Kind || o.Addr != was[i].Addr || o.Byte != was[i].Byte || o.GE != was[i].GE || !slices.Equal(o.Data, was[i].Data) || !slices.Equal(o.Pairs, was[i].Pairs) {
				t.Errorf("%v became %v", was[i], o)
			}
		}
		if !slices.Equal(bs, wasBytes) || !slices.Equal(ps, wasPairs) {
			t.Errorf("of kind %02X: % X %v", kind, bs, ps)
		}
		stands := formOf(p)
		clear(os)
		clear(bs)
		clear(ps)
		wantForm(t, p, stands, "behind orders that were written over")
	}
}

func TestWhatDoesNotBelong(t *testing.T) { // P16.1: of each order what belongs to its kind alone counts
	r := rand.New(rand.NewSource(4))
	for _, kind := range kinds {
		for range 200 {
			p := sized(t, sizes[r.Intn(len(sizes))])
			strew(r, p, func(int) bool { return r.Intn(3) == 0 })
			o := api.Order{Kind: kind, Addr: r.Intn(p.Len()+2) - 1, Byte: byte(r.Intn(256)), GE: r.Intn(2) == 0, Data: []byte{0xC1, 0xC2}, Pairs: []api.Pair{somePair(r), somePair(r)}}
			hold(t, p, []api.Order{o, pt}, r.Intn(p.Len()))
		}
	}
}

func TestNoPlane(t *testing.T) { // P1: a plane that was never made has no place
	for _, p := range []*plane.Plane{nil, new(plane.Plane)} {
		for _, from := range []int{0, -1, 1, math.MaxInt} {
			if at, done, e := Paint(p, []api.Order{ic, data(0xC1)}, from); at != 0 || done != 0 || e != api.ErrAddress {
				t.Errorf("from %d: %d %d %d", from, at, done, e)
			}
		}
	}
}

func TestManyOrders(t *testing.T) { // P16.1: as many as a great record has, on the greatest plane
	p := sized(t, api.Size{Rows: 32, Cols: 128})
	var os []api.Order
	for i := range 3000 {
		os = append(os, []api.Order{eua(4095), pt, ra(4094, 0xC1), eua(0)}[i%4])
	}
	if at, done, e := Paint(p, os, 4095); at != 0 || done != 3000 || e != api.OK {
		t.Errorf("%d %d %d", at, done, e)
	}
}
