package typing

import (
	"fmt"
	"math/rand"
	"slices"
	"testing"

	"greenscreen/api"
	"greenscreen/plane"
)

func TestExample(t *testing.T) { // P20.1
	p := laid(t, "A..")
	if e := Put(p, 0xC2, true); e != api.OK || drawn(p) != "BA." || p.Cursor() != 1 {
		t.Errorf("%d, %q, the cursor at %d", e, drawn(p), p.Cursor())
	}
}

// wantCall does a call on a clone with the cursor at a place, and tells where that isn't as the chapter's form has it: P20.1, and P20.2.
func wantCall(t *testing.T, p *plane.Plane, at int, c call) {
	t.Helper()
	p.Point(at)
	was, want, got := formOf(p), formOf(p), p.Clone()
	what := fmt.Sprintf("%s at %d of %v", c.name, at, p.Size())
	told := c.form(want)
	if e := c.do(got); e != told {
		t.Fatalf("%s: %d, not %d", what, e, told)
	}
	if told != api.OK && !plane.Same(p, got) {
		t.Fatalf("%s: something is turned, though it is error %d", what, told)
	}
	if got.Size() != p.Size() {
		t.Fatalf("%s: the size is %v", what, got.Size())
	}
	wantForm(t, got, want, what)
	wantKept(t, got, was, what)
}

func TestCalls(t *testing.T) { // P20.1 and P20.2: from each place, held against the chapter's form
	eachPlane(t, func(r *rand.Rand, p *plane.Plane) {
		for at := range p.Len() {
			for _, c := range slices.Concat(puts(someByte(r)), puts(0xF0), others()) {
				wantCall(t, p, at, c)
			}
		}
	})
}

func TestCallsOnGreatPlanes(t *testing.T) { // P20.1 and P20.2
	largePlanes(t, func(r *rand.Rand, p *plane.Plane) {
		for _, at := range edges(r, p) {
			for _, c := range slices.Concat(puts(someByte(r)), others()) {
				wantCall(t, p, at, c)
			}
		}
	})
}

func TestPutOfEachByte(t *testing.T) { // P20.1: of numeric fields 13 bytes, of others all, of protected ones none
	takes := func(attribute, b byte) api.Errno {
		switch {
		case attribute&0x20 != 0:
			return api.ErrProtected
		case attribute&0x10 != 0 && !(b >= 0xF0 && b <= 0xF9 || b == 0x4B || b == 0x60 || b == 0x1C):
			return api.ErrNumeric
		}
		return api.OK
	}
	for attribute := range 256 {
		for b := range 256 {
			for _, insert := range []bool{false, true} {
				p := laid(t, "A(BC.(D")
				p.Set(1, api.Cell{Start: true, Byte: byte(attribute), Color: 3})
				p.Point(2)
				was := p.Clone()
				want := takes(byte(attribute), byte(b))
				if e := Put(p, byte(b), insert); e != want {
					t.Fatalf("%02X into %02X: %d, not %d", b, attribute, e, want)
				}
				switch {
				case want != api.OK:
					if !plane.Same(p, was) {
						t.Fatalf("%02X into %02X: something is turned, the cursor at %d", b, attribute, p.Cursor())
					}
				case p.At(2) != api.Cell{Byte: byte(b)} || p.Cursor() != 3 || p.At(1) != api.Cell{Start: true, Byte: byte(attribute | 1), Color: 3}:
					t.Fatalf("%02X into %02X: %v behind %v, the cursor at %d", b, attribute, p.At(2), p.At(1), p.Cursor())
				}
			}
		}
	}
}

func TestPutOfEachByteWithoutFields(t *testing.T) { // P20.1
	for b := range 256 {
		for _, insert := range []bool{false, true} {
			p := laid(t, "A.C")
			p.Point(1)
			if e := Put(p, byte(b), insert); e != api.OK || p.At(1) != (api.Cell{Byte: byte(b)}) || p.Cursor() != 2 || p.At(0) != cellOf('A') || p.At(2) != cellOf('C') {
				t.Fatalf("%02X: %d, %v, the cursor at %d", b, e, p.At(1), p.Cursor())
			}
		}
	}
}

// a drawnCase is a call with the cursor at a place, and what comes of it.
type drawnCase struct {
	name, before string
	at           int
	sign         byte // of Put
	after        string
	cursor       int
	e            api.Errno
}

// wantDrawn holds a call against cases that are written out.
func wantDrawn(t *testing.T, do func(p *plane.Plane, b byte) api.Errno, cases []drawnCase) {
	t.Helper()
	for _, c := range cases {
		p := laid(t, c.before)
		p.Point(c.at)
		if e := do(p, cellOf(c.sign).Byte); e != c.e || drawn(p) != c.after || p.Cursor() != c.cursor {
			t.Errorf("%s: %d, %q, the cursor at %d, not %d, %q, %d", c.name, e, drawn(p), p.Cursor(), c.e, c.after, c.cursor)
		}
	}
}

// refusedAnyhow are cases in which nothing may be typed, with insert or without.
func refusedAnyhow() []drawnCase {
	return []drawnCase{
		{"a protected field", "(A[BC", 4, '1', "(A[BC", 4, api.ErrProtected},
		{"a skipped field", "(A{.C", 3, '1', "(A{.C", 3, api.ErrProtected},
		{"a protected field that goes round the end", "A(B[C", 0, '1', "A(B[C", 0, api.ErrProtected},
		{"an open field's attribute", "(A[BC", 0, '1', "(A[BC", 0, api.ErrProtected},
		{"a protected field's attribute", "(A[BC", 2, '1', "(A[BC", 2, api.ErrProtected},
		{"an attribute alone", "(", 0, '1', "(", 0, api.ErrProtected},
		{"an attribute of no cells", "(().", 1, '1', "(().", 1, api.ErrProtected},
		{"a letter into a numeric field", "<1.3", 1, 'A', "<1.3", 1, api.ErrNumeric},
		{"an empty byte into a numeric field", "<1.3", 2, '.', "<1.3", 2, api.ErrNumeric},
		{"a letter into a numeric field that goes round the end", "..[C>", 0, 'A', "..[C>", 0, api.ErrNumeric},
		{"protected ahead of numeric", "{1.3", 1, 'A', "{1.3", 1, api.ErrProtected},
		{"a numeric field's attribute", "<1.3", 0, 'A', "<1.3", 0, api.ErrProtected},
	}
}

func TestPutWrittenOut(t *testing.T) { // P20.1, P20.2 and P20.3
	put := func(p *plane.Plane, b byte) api.Errno { return Put(p, b, false) }
	wantDrawn(t, put, refusedAnyhow())
	wantDrawn(t, put, []drawnCase{
		{"not formatted", "ABC", 1, 'D', "ADC", 2, api.OK},
		{"not formatted, at the last place", "ABC", 2, 'D', "ABD", 0, api.OK},
		{"one cell", "A", 0, 'B', "B", 0, api.OK},
		{"an empty cell", "(.B[C", 1, 'D', ")DB[C", 2, api.OK},
		{"a full field", "(AB[C", 1, 'D', ")DB[C", 2, api.OK},
		{"an empty byte", "(AB[C", 1, '.', ").B[C", 2, api.OK},
		{"one that is modified", ")AB[C", 1, 'D', ")DB[C", 2, api.OK},
		{"its last place", "(AB[C", 2, 'D', ")AD[C", 4, api.OK},
		{"its last place, ahead of a skipped one", "(AB{C(E", 2, 'D', ")AD{C(E", 6, api.OK},
		{"its last place, ahead of a skipped one, and no other one is open", "(AB{C", 2, 'D', ")AD{C", 1, api.OK},
		{"its last place, ahead of fields of no cells", "(A((({", 1, 'D', ")D((({", 3, api.OK},
		{"round the end", "AB[C(D", 5, 'E', "AB[C)E", 0, api.OK},
		{"round the end, from behind it", "AB[C(D", 1, 'E', "AE[C)D", 3, api.OK},
		{"a field's attribute at the last place", "AB[C(", 0, 'E', "EB[C)", 1, api.OK},
		{"one field alone", "A(", 0, 'E', "E)", 0, api.OK},
		{"GE goes", "(aB[C", 1, 'D', ")DB[C", 2, api.OK},
		{"GE and Byte 0", "(:B[C", 1, 'D', ")DB[C", 2, api.OK},
		{"a digit into a numeric field", "<1.3", 2, '9', ">193", 3, api.OK},
		{"numeric ahead of over: it isn't over", "<12[", 1, '9', ">92[", 2, api.OK},
	})
}

func TestInsertWrittenOut(t *testing.T) { // P20.1, P20.2 and P20.3
	put := func(p *plane.Plane, b byte) api.Errno { return Put(p, b, true) }
	wantDrawn(t, put, refusedAnyhow())
	wantDrawn(t, put, []drawnCase{
		{"the first empty one at the cursor", "(.AB[", 1, 'C', ")CAB[", 2, api.OK},
		{"another one behind that", "(.A.[", 1, 'C', ")CA.[", 2, api.OK},
		{"right behind it", "(A.B[", 1, 'C', ")CAB[", 2, api.OK},
		{"several behind it", "(A...[", 1, 'C', ")CA..[", 2, api.OK},
		{"two, with one between", "(A.B.[", 1, 'C', ")CAB.[", 2, api.OK},
		{"at the row's end", "(ABD.[", 1, 'C', ")CABD[", 2, api.OK},
		{"from within", "(ABD.[", 3, 'C', ")ABCD[", 4, api.OK},
		{"at the row's last place", "(AB.[D", 3, 'C', ")ABC[D", 5, api.OK},
		{"none", "(AB[.", 1, 'C', "(AB[.", 1, api.ErrOver},
		{"none from the last place on", "(.B[.", 2, 'C', "(.B[.", 2, api.ErrOver},
		{"none but one ahead of the cursor", "(.AB[", 2, 'C', "(.AB[", 2, api.ErrOver},
		{"none but one in the next field", "(AB(.", 1, 'C', "(AB(.", 1, api.ErrOver},
		{"none but an attribute 00, whose Byte is 0", "(AB(D", 1, 'C', "(AB(D", 1, api.ErrOver},
		{"GE and Byte 0 isn't empty", "(A:[", 1, 'C', "(A:[", 1, api.ErrOver},
		{"GE and Byte 0 at the cursor isn't empty", "(:[", 1, 'C', "(:[", 1, api.ErrOver},
		{"GE and Byte 0 moves on", "(A:.[", 1, 'C', ")CA:[", 2, api.OK},
		{"GE and Byte 0 at the cursor moves on", "(:.[", 1, 'C', ")C:[", 2, api.OK},
		{"GE and another Byte moves on as it is", "(aBd.[", 1, 'C', ")CaBd[", 2, api.OK},
		{"an empty byte", "(AB.[", 1, '.', ").AB[", 2, api.OK},
		{"round the end", "A.[B(DE", 5, 'C', "EA[B)CD", 6, api.OK},
		{"round the end, one is empty ahead of it", "AB[F(D.", 5, 'C', "AB[F)CD", 6, api.OK},
		{"round the end, from behind it", "A.[B(.E", 0, 'C', "CA[B).E", 1, api.OK},
		{"round the end, none behind it", "AB[D(.E", 0, 'C', "AB[D(.E", 0, api.ErrOver},
		{"one field alone", "..(AB", 3, 'C', "B.)CA", 4, api.OK},
		{"one field alone, from behind its end", "A.(.B", 1, 'C', "AC).B", 3, api.OK},
		{"not formatted", "AB.D", 0, 'E', "EABD", 1, api.OK},
		{"not formatted, up to the last place", "ABC.", 1, 'E', "AEBC", 2, api.OK},
		{"not formatted, at the last place", "AB.", 2, 'C', "ABC", 0, api.OK},
		{"not formatted: the row doesn't go round", ".BCD", 1, 'E', ".BCD", 1, api.ErrOver},
		{"not formatted, none", "ABC", 2, 'D', "ABC", 2, api.ErrOver},
		{"one cell that is empty", ".", 0, 'A', "A", 0, api.OK},
		{"one cell that isn't", "A", 0, 'B', "A", 0, api.ErrOver},
		{"a field of one cell that is empty", "(.[", 1, 'A', ")A[", 0, api.OK},
		{"a field of one cell that isn't", "(B[", 1, 'A', "(B[", 1, api.ErrOver},
		{"protected ahead of over", "[AB", 1, 'C', "[AB", 1, api.ErrProtected},
		{"numeric ahead of over", "<12", 1, 'C', "<12", 1, api.ErrNumeric},
		{"over, when it's a digit", "<12", 1, '3', "<12", 1, api.ErrOver},
		{"a digit", "<12.", 1, '3', ">312", 2, api.OK},
		{"its last place, ahead of a skipped one", "(A.{C(E", 2, 'D', ")AD{C(E", 6, api.OK},
	})
}

// lit is a cell with a look.
func lit(b, light, color byte) api.Cell { return api.Cell{Byte: b, Light: light, Color: color} }

func TestLooks(t *testing.T) { // P20.1: the cell at the cursor keeps its look, those that move take theirs along
	start := func(b byte) api.Cell { return api.Cell{Start: true, Byte: b, Light: 7, Color: 8} }
	a, g, empty := lit(0xC1, 1, 2), api.Cell{Byte: 0xC7, GE: true, Light: 3, Color: 4}, lit(0, 5, 6)
	for _, c := range []struct {
		name   string
		do     func(p *plane.Plane) api.Errno
		before []api.Cell
		at     int
		after  []api.Cell
	}{
		{"Put", func(p *plane.Plane) api.Errno { return Put(p, 0xC2, false) }, []api.Cell{start(0), a, g, empty}, 1, []api.Cell{start(1), lit(0xC2, 1, 2), g, empty}},
		{"Put on GE", func(p *plane.Plane) api.Errno { return Put(p, 0xC2, false) }, []api.Cell{start(0), a, g, empty}, 2, []api.Cell{start(1), a, lit(0xC2, 3, 4), empty}},
		{"insert", func(p *plane.Plane) api.Errno { return Put(p, 0xC2, true) }, []api.Cell{start(0), a, g, empty}, 1, []api.Cell{start(1), lit(0xC2, 1, 2), a, g}},
		{"insert on GE", func(p *plane.Plane) api.Errno { return Put(p, 0xC2, true) }, []api.Cell{start(0), a, g, empty}, 2, []api.Cell{start(1), a, lit(0xC2, 3, 4), g}},
		{"insert on the empty one", func(p *plane.Plane) api.Errno { return Put(p, 0xC2, true) }, []api.Cell{start(0), a, empty, g}, 2, []api.Cell{start(1), a, lit(0xC2, 5, 6), g}},
		{"insert, not formatted", func(p *plane.Plane) api.Errno { return Put(p, 0xC2, true) }, []api.Cell{g, a, empty}, 0, []api.Cell{lit(0xC2, 3, 4), g, a}},
		{"Delete", Delete, []api.Cell{start(0), a, g, empty, a}, 1, []api.Cell{start(1), g, empty, a, {}}},
		{"Delete, not formatted", Delete, []api.Cell{g, a, empty}, 0, []api.Cell{a, empty, {}}},
		{"End", End, []api.Cell{start(0), a, g, empty}, 2, []api.Cell{start(1), a, {}, {}}},
		{"Dup", func(p *plane.Plane) api.Errno { return Dup(p, true) }, []api.Cell{start(0), a, g, empty}, 2, []api.Cell{start(1), a, lit(0x1C, 3, 4), g}},
		{"Mark", func(p *plane.Plane) api.Errno { return Mark(p, true) }, []api.Cell{start(0), a, g, empty}, 1, []api.Cell{start(1), lit(0x1E, 1, 2), a, g}},
	} {
		p := sized(t, api.Size{Rows: 1, Cols: len(c.before)})
		for at, cell := range c.before {
			p.Set(at, cell)
		}
		p.Point(c.at)
		if e := c.do(p); e != api.OK || !slices.Equal(formOf(p).cells, c.after) {
			t.Errorf("%s: %d, %v, not %v", c.name, e, formOf(p).cells, c.after)
		}
	}
}

// rowOf is the cells of a row.
func rowOf(p *plane.Plane, row []int) []api.Cell {
	var out []api.Cell
	for _, at := range row {
		out = append(out, p.At(at))
	}
	return out
}

func TestTypedStands(t *testing.T) { // P20.3: with insert all that stood in the row stands behind it, but for one empty cell
	eachPlane(t, func(r *rand.Rand, p *plane.Plane) {
		for at := range p.Len() {
			p.Point(at)
			was := formOf(p)
			if !was.isOpen(at) {
				continue
			}
			row, b := was.row(at), someByte(r)
			for _, insert := range []bool{false, true} {
				got := p.Clone()
				if Put(got, b, insert) != api.OK {
					continue
				}
				want := rowOf(p, row)
				if typed := lit(b, want[0].Light, want[0].Color); insert {
					gap := slices.IndexFunc(want, func(c api.Cell) bool { return c.Byte == 0 && !c.GE })
					want = slices.Concat([]api.Cell{typed}, want[:gap], want[gap+1:])
				} else {
					want[0] = typed
				}
				if have := rowOf(got, row); !slices.Equal(have, want) {
					t.Fatalf("%02X, insert %t: %v, not %v", b, insert, have, want)
				}
			}
		}
	})
}

func TestString(t *testing.T) { // P20.1 and P20.2: bytes one after the other, held against the chapter's form, and against Put
	try := func(r *rand.Rand, p *plane.Plane, at, many int) {
		p.Point(at)
		b := make([]byte, many, many+3)
		for i := range b {
			b[i] = someByte(r)
			if r.Intn(2) == 0 {
				b[i] = 0xF0 + byte(r.Intn(10))
			}
		}
		for _, insert := range []bool{false, true} {
			was, want, got, bare := formOf(p), formOf(p), p.Clone(), p.Clone()
			what := fmt.Sprintf("String of %x, insert %t, at %d of %v", b, insert, at, p.Size())
			told, told2 := want.string(b, insert)
			spare := slices.Clone(b[:many+3])
			n, e := String(got, b, insert)
			if n != told || e != told2 {
				t.Fatalf("%s: %d and %d, not %d and %d", what, n, e, told, told2)
			}
			if !slices.Equal(b[:many+3], spare) {
				t.Fatalf("%s: the bytes were turned", what)
			}
			wantForm(t, got, want, what)
			wantKept(t, got, was, what)
			for _, one := range b[:n] {
				if Put(bare, one, insert) != api.OK {
					t.Fatalf("%s: %02X can't be put", what, one)
				}
			}
			if !plane.Same(got, bare) || e != api.OK && Put(bare, b[n], insert) != e {
				t.Fatalf("%s isn't as its first %d bytes put", what, n)
			}
		}
	}
	eachPlane(t, func(r *rand.Rand, p *plane.Plane) {
		for at := range p.Len() {
			try(r, p, at, r.Intn(2*p.Len()+3))
		}
	})
	largePlanes(t, func(r *rand.Rand, p *plane.Plane) {
		for _, at := range edges(r, p)[:4] {
			try(r, p, at, r.Intn(40))
		}
	})
}

// bytesOf are the bytes of a drawing.
func bytesOf(drawing string) []byte {
	var out []byte
	for at := range drawing {
		out = append(out, cellOf(drawing[at]).Byte)
	}
	return out
}

func TestStringWrittenOut(t *testing.T) { // P20.1, P20.2 and P20.3
	for _, c := range []struct {
		name, before string
		at           int
		typed        string
		insert       bool
		after        string
		cursor, many int
		e            api.Errno
	}{
		{"no bytes", "(AB[", 1, "", false, "(AB[", 1, 0, api.OK},
		{"no bytes, where nothing may be typed", "(AB[", 3, "", true, "(AB[", 3, 0, api.OK},
		{"all of them", "(...[A", 1, "AB", false, ")AB.[A", 3, 2, api.OK},
		{"a whole field", "(..(...", 1, "AB", false, ")AB(...", 4, 2, api.OK},
		{"on into the next field", "(..(...", 1, "ABCD", false, ")AB)CD.", 6, 4, api.OK},
		{"over a skipped field", "(..{A(...", 1, "ABCD", false, ")AB{A)CD.", 8, 4, api.OK},
		{"round the end", "..[A(..", 5, "ABC", false, "C.[A)AB", 1, 3, api.OK},
		{"the same field once more", "(..", 1, "ABCD", false, ")CD", 1, 4, api.OK},
		{"an error at the first byte", "<12[", 1, "A1", false, "<12[", 1, 0, api.ErrNumeric},
		{"an error at the first byte, a protected field", "[A(B", 1, "AB", false, "[A(B", 1, 0, api.ErrProtected},
		{"an error in the middle", "<...[", 1, "1A2", false, ">1..[", 2, 1, api.ErrNumeric},
		{"an error at the last one", "<...[", 1, "12A", false, ">12.[", 3, 2, api.ErrNumeric},
		{"an error at the only one", "<...[", 1, "A", true, "<...[", 1, 0, api.ErrNumeric},
		{"into a protected field", "(..[..", 1, "ABCD", false, ")AB[..", 4, 2, api.ErrProtected},
		{"into an attribute", "(..((.", 1, "ABCD", false, ")AB((.", 4, 2, api.ErrProtected},
		{"into a numeric field", "(..<..", 1, "ABCD", false, ")AB<..", 4, 2, api.ErrNumeric},
		{"into a numeric field, digits", "(..<..", 1, "AB12", false, ")AB>12", 1, 4, api.OK},
		{"not formatted", "....", 2, "ABC", false, "C.AB", 1, 3, api.OK},
		{"insert", "(D..[", 1, "AB", true, ")ABD[", 3, 2, api.OK},
		{"insert until it's over", "(D..[", 1, "ABC", true, ")ABD[", 3, 2, api.ErrOver},
		{"insert, over at the first byte", "(D[.", 1, "AB", true, "(D[.", 1, 0, api.ErrOver},
		{"insert, not formatted, until it's over", "D.E.", 0, "ABC", true, "ABDE", 2, 2, api.ErrOver},
		{"insert, not formatted, round the end", "D.E.", 3, "AB", true, "BDEA", 1, 2, api.OK},
		{"insert, not formatted, round the end, until it's over", "D.E.", 3, "ABC", true, "BDEA", 1, 2, api.ErrOver},
		// D moves to the last place, behind the first byte: the second one finds no empty cell there.
		{"insert of empty bytes", "(D.[", 1, "..", true, ").D[", 2, 1, api.ErrOver},
	} {
		p := laid(t, c.before)
		p.Point(c.at)
		n, e := String(p, bytesOf(c.typed), c.insert)
		if n != c.many || e != c.e || drawn(p) != c.after || p.Cursor() != c.cursor {
			t.Errorf("%s: %d, %d, %q, the cursor at %d, not %d, %d, %q, %d", c.name, n, e, drawn(p), p.Cursor(), c.many, c.e, c.after, c.cursor)
		}
	}
}

func TestStringOfNil(t *testing.T) { // P20.1: nil is as a list without bytes
	p := laid(t, "(A[")
	for at := range 3 {
		p.Point(at)
		was := p.Clone()
		if n, e := String(p, nil, true); n != 0 || e != api.OK || !plane.Same(p, was) {
			t.Errorf("%d, %d", n, e)
		}
	}
}

// protectedAnyhow are cases in which nothing may be deleted.
func protectedAnyhow() []drawnCase {
	return []drawnCase{
		{"a protected field", "(A[BC", 3, 0, "(A[BC", 3, api.ErrProtected},
		{"a skipped field", "(A{BC", 4, 0, "(A{BC", 4, api.ErrProtected},
		{"an open field's attribute", "(A[BC", 0, 0, "(A[BC", 0, api.ErrProtected},
		{"a protected field's attribute", "(A[BC", 2, 0, "(A[BC", 2, api.ErrProtected},
		{"an attribute alone", "(", 0, 0, "(", 0, api.ErrProtected},
		{"a protected field that goes round the end", "A(B[C", 0, 0, "A(B[C", 0, api.ErrProtected},
	}
}

func TestDeleteWrittenOut(t *testing.T) { // P20.1 and P20.2
	do := func(p *plane.Plane, _ byte) api.Errno { return Delete(p) }
	wantDrawn(t, do, protectedAnyhow())
	wantDrawn(t, do, []drawnCase{
		{"the row's first place", "(ABC[D", 1, 0, ")BC.[D", 1, api.OK},
		{"within it", "(ABC[D", 2, 0, ")AC.[D", 2, api.OK},
		{"its last place", "(ABC[D", 3, 0, ")AB.[D", 3, api.OK},
		{"a field of one cell", "(A[D", 1, 0, ").[D", 1, api.OK},
		{"a field of one cell that is empty", "(.[D", 1, 0, ").[D", 1, api.OK},
		{"one that is modified", ")ABC[D", 1, 0, ")BC.[D", 1, api.OK},
		{"a numeric one", "<ABC", 1, 0, ">BC.", 1, api.OK},
		{"GE moves too", "(Ab:c[D", 1, 0, ")b:c.[D", 1, api.OK},
		{"empty ones move too", "(A.B.C[D", 1, 0, ").B.C.[D", 1, api.OK},
		{"round the end", "AB[C(DE", 5, 0, "B.[C)EA", 5, api.OK},
		{"round the end, from the last place", "AB[C(DE", 6, 0, "B.[C)DA", 6, api.OK},
		{"round the end, from behind it", "AB[C(DE", 0, 0, "B.[C)DE", 0, api.OK},
		{"one field alone", "AB(CD", 3, 0, "B.)DA", 3, api.OK},
		{"one field alone, its last place", "AB(CD", 1, 0, "A.)CD", 1, api.OK},
		{"not formatted", "ABCD", 0, 0, "BCD.", 0, api.OK},
		{"not formatted, from within", "ABCD", 2, 0, "ABD.", 2, api.OK},
		{"not formatted, the last place", "ABCD", 3, 0, "ABC.", 3, api.OK},
		{"one cell", "A", 0, 0, ".", 0, api.OK},
	})
}

func TestEndWrittenOut(t *testing.T) { // P20.1 and P20.2
	do := func(p *plane.Plane, _ byte) api.Errno { return End(p) }
	wantDrawn(t, do, protectedAnyhow())
	wantDrawn(t, do, []drawnCase{
		{"the row's first place", "(ABC[D", 1, 0, ")...[D", 1, api.OK},
		{"within it", "(ABC[D", 2, 0, ")A..[D", 2, api.OK},
		{"its last place", "(ABC[D", 3, 0, ")AB.[D", 3, api.OK},
		{"a field of one cell", "(A[D", 1, 0, ").[D", 1, api.OK},
		{"a field of one cell that is empty", "(.[D", 1, 0, ").[D", 1, api.OK},
		{"one that is modified", ")ABC[D", 2, 0, ")A..[D", 2, api.OK},
		{"a numeric one", "<AbC", 1, 0, ">...", 1, api.OK},
		{"round the end", "AB[C(DE", 6, 0, "..[C)D.", 6, api.OK},
		{"round the end, from behind it", "AB[C(DE", 1, 0, "A.[C)DE", 1, api.OK},
		{"one field alone", "AB(CD", 3, 0, "..)..", 3, api.OK},
		{"not formatted", "AbCD", 1, 0, "A...", 1, api.OK},
		{"not formatted, the last place", "ABCD", 3, 0, "ABC.", 3, api.OK},
		{"one cell", "A", 0, 0, ".", 0, api.OK},
	})
}

func TestDupWrittenOut(t *testing.T) { // P20.1 and P20.2: 1C may be typed into a numeric field, and the tab goes from where the cursor was
	for _, insert := range []bool{false, true} {
		do := func(p *plane.Plane, _ byte) api.Errno { return Dup(p, insert) }
		wantDrawn(t, do, protectedAnyhow())
		wantDrawn(t, do, []drawnCase{
			{"an open field", "(.A[D(E", 1, 0, ")/A[D(E", 6, api.OK},
			{"a numeric field", "<.A[D<E", 1, 0, ">/A[D<E", 6, api.OK},
			{"the last place, the next field behind it", "(A.(E(D", 2, 0, ")A/(E(D", 4, api.OK},
			{"the last place, a skipped one between", "(A.{E(D(F", 2, 0, ")A/{E(D(F", 6, api.OK},
			{"a field of one cell", "(.(E(D", 1, 0, ")/(E(D", 3, api.OK},
			{"the last field, round the end", "(A(..", 3, 0, "(A)/.", 1, api.OK},
			{"round the end, from behind it", "..[A(.", 0, 0, "/.[A).", 5, api.OK},
			{"one field alone", "(.AB", 1, 0, ")/AB", 1, api.OK},
			{"not formatted: there is no field to go to", "A..D", 2, 0, "A./D", 0, api.OK},
			{"one cell", ".", 0, 0, "/", 0, api.OK},
		})
	}
	wantDrawn(t, func(p *plane.Plane, _ byte) api.Errno { return Dup(p, true) }, []drawnCase{
		{"insert", "(AB.[D(E", 1, 0, ")/AB[D(E", 7, api.OK},
		{"insert, over", "(AB[D(E", 1, 0, "(AB[D(E", 1, api.ErrOver},
		{"insert, over in a numeric field", "<AB[D(E", 1, 0, "<AB[D(E", 1, api.ErrOver},
	})
	wantDrawn(t, func(p *plane.Plane, _ byte) api.Errno { return Dup(p, false) }, []drawnCase{
		{"a full field", "(AB[D(E", 1, 0, ")/B[D(E", 6, api.OK},
	})
}

func TestMarkWrittenOut(t *testing.T) { // P20.1 and P20.2: 1E may not be typed into a numeric field
	for _, insert := range []bool{false, true} {
		do := func(p *plane.Plane, _ byte) api.Errno { return Mark(p, insert) }
		wantDrawn(t, do, protectedAnyhow())
		wantDrawn(t, do, []drawnCase{
			{"an open field", "(.A[D(E", 1, 0, ");A[D(E", 2, api.OK},
			{"the last place", "(A.(E(D", 2, 0, ")A;(E(D", 4, api.OK},
			{"the last place, a skipped one behind it", "(A.{E(D", 2, 0, ")A;{E(D", 6, api.OK},
			{"a numeric field", "<.A[D<E", 1, 0, "<.A[D<E", 1, api.ErrNumeric},
			{"a numeric field that is full", "<BA[D<E", 1, 0, "<BA[D<E", 1, api.ErrNumeric},
			{"not formatted", "A..D", 2, 0, "A.;D", 3, api.OK},
			{"one cell", ".", 0, 0, ";", 0, api.OK},
		})
	}
	wantDrawn(t, func(p *plane.Plane, _ byte) api.Errno { return Mark(p, true) }, []drawnCase{
		{"insert", "(AB.[D", 1, 0, ");AB[D", 2, api.OK},
		{"insert, over", "(AB[D", 1, 0, "(AB[D", 1, api.ErrOver},
	})
	wantDrawn(t, func(p *plane.Plane, _ byte) api.Errno { return Mark(p, false) }, []drawnCase{
		{"a full field", "(AB[D", 1, 0, ");B[D", 2, api.OK},
	})
}

func TestAnyOrder(t *testing.T) { // P20.1 and P20.2: calls one after the other, on one plane
	r := rand.New(rand.NewSource(3))
	for range 300 {
		p := sized(t, sizes[r.Intn(len(sizes))])
		kinds := attributes(r)
		strew(r, p, func(int) bool { return r.Intn(4) == 0 }, kinds[r.Intn(len(kinds))])
		want := formOf(p)
		for range 60 {
			all := slices.Concat(puts(someByte(r)), puts(0xF0+byte(r.Intn(10))), others())
			c := all[r.Intn(len(all))]
			was := want.clone()
			told := c.form(want)
			if e := c.do(p); e != told {
				t.Fatalf("%s: %d, not %d", c.name, e, told)
			}
			wantForm(t, p, want, c.name)
			wantKept(t, p, was, c.name)
			if r.Intn(3) == 0 {
				want.cursor = r.Intn(p.Len())
				p.Point(want.cursor)
			}
		}
	}
}

func TestPlaneOfNoCells(t *testing.T) { // P1: on a plane that was never made nothing may be typed
	for _, p := range []*plane.Plane{nil, new(plane.Plane)} {
		for _, c := range slices.Concat(puts(0xC1), puts(0xF0), puts(0), others()) {
			if e := c.do(p); e != api.ErrProtected || p.Len() != 0 || p.Cursor() != 0 {
				t.Errorf("%s: %d", c.name, e)
			}
		}
		for _, insert := range []bool{false, true} {
			if n, e := String(p, []byte{0xF1, 0xF2}, insert); n != 0 || e != api.ErrProtected {
				t.Errorf("String: %d, %d", n, e)
			}
			if n, e := String(p, nil, insert); n != 0 || e != api.OK {
				t.Errorf("String of no bytes: %d, %d", n, e)
			}
		}
	}
}
