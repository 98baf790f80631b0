package wipe

import (
	"fmt"
	"math"
	"math/rand"
	"testing"

	"greenscreen/api"
	"greenscreen/field"
	"greenscreen/plane"
)

func TestExample(t *testing.T) { // P17.1
	p := laid(t, "(AB[C")
	p.Point(1)
	if many, ok := Rest(p, 2); many != 1 || !ok || drawn(p) != ")A.[C" || p.Cursor() != 1 {
		t.Errorf("%d %t %q", many, ok, drawn(p))
	}
}

func TestAll(t *testing.T) { // P17.1 and P17.3: as at first, once and again
	try := func(p *plane.Plane) {
		got := p.Clone()
		for range 2 {
			All(got)
			if got.Size() != p.Size() {
				t.Fatalf("the size is %v, not %v", got.Size(), p.Size())
			}
			wantForm(t, got, &form{cells: make([]api.Cell, p.Len())}, "All")
		}
	}
	eachPlane(t, try)
	largePlanes(t, try)
}

func TestOpen(t *testing.T) { // P17.1, P17.2 and P17.3: held against the chapter's form, once and again
	try := func(p *plane.Plane) {
		was, want := formOf(p), formOf(p)
		got, told := p.Clone(), want.openAll()
		for range 2 {
			if many := Open(got); many != told {
				t.Fatalf("%v: Open = %d, not %d", was.cells, many, told)
			}
			wantForm(t, got, want, "Open")
			wantAttributes(t, was, got, "Open")
			wantProtected(t, was, got, "Open")
		}
		for f := range field.All(got) {
			if f.Attr&0x21 == 1 {
				t.Fatalf("%v is modified", f)
			}
		}
	}
	eachPlane(t, try)
	largePlanes(t, try)
}

func TestOpenWrittenOut(t *testing.T) { // P17.1 and P17.2
	for _, c := range []struct {
		name, before, after string
		many, cursor        int
	}{
		{"not formatted", "AbC", "...", 3, 0},
		{"not formatted, empty", "...", "...", 3, 0},
		{"one cell", "A", ".", 1, 0},
		{"one attribute alone", ")", "(", 0, 0},
		{"one protected attribute alone", "]", "]", 0, 0},
		{"one open field", "A)bC", ".(..", 3, 2},
		{"one protected field", "A]BC", "A]BC", 0, 0},
		{"several", ")A]B(C[D)E", "(.]B(.[D(.", 3, 1},
		{"a protected one ahead", "]A)B", "]A(.", 1, 3},
		{"fields of no cells", "))[)A", "(([(.", 1, 4},
		{"attributes alone", ")](", "(](", 0, 0},
		{"an attribute at the last place", "AB]C)", "..]C(", 2, 0},
		{"an attribute at the last place, behind another open field", "AB)C)", "..(.(", 3, 3},
		{"a protected one at the last place", "AB)C]", "AB(.]", 1, 3},
		{"an attribute at the first place", ")AB", "(..", 2, 1},
		{"attributes at both ends", ")AB)", "(..(", 2, 1},
	} {
		for cursor := range len(c.before) {
			p := laid(t, c.before)
			p.Point(cursor)
			if many := Open(p); many != c.many || drawn(p) != c.after || p.Cursor() != c.cursor {
				t.Errorf("%s: %q, %d, cursor %d; not %q, %d, %d", c.name, drawn(p), many, p.Cursor(), c.after, c.many, c.cursor)
			}
		}
	}
}

func TestOpenOfEachAttribute(t *testing.T) { // P17.1 and P17.2: the other bits stay, and how it looks does
	for b := range 256 {
		p := laid(t, "A.BCD")
		start := api.Cell{Byte: byte(b), GE: b%2 == 0, Start: true, Light: 0xF2, Color: 0xF4}
		p.Set(1, start)
		p.Set(3, api.Cell{Start: true, Byte: 0x21})
		p.Set(2, api.Cell{Byte: 0xC2, GE: true, Light: 1, Color: 2})
		many, want := 1, api.Cell{}
		if b&0x20 != 0 {
			many, want = 0, p.At(2)
		} else {
			start.Byte &= 0xFE
		}
		if got := Open(p); got != many || p.At(1) != start || p.At(2) != want || p.At(0) != cellOf('A') || p.At(3) != cellOf(']') || p.At(4) != cellOf('D') {
			t.Errorf("%02X: %d, %v, %v", b, got, p.At(1), p.At(2))
		}
	}
}

// wantRest lets go from a place on, and tells where that isn't as the chapter's form has it, once and again.
func wantRest(t *testing.T, p *plane.Plane, at int) {
	t.Helper()
	was, want := formOf(p), formOf(p)
	got := p.Clone()
	told, well := want.rest(at)
	for range 2 {
		if many, ok := Rest(got, at); many != told || ok != well {
			t.Fatalf("%v: Rest(%d) = %d %t, not %d %t", was.cells, at, many, ok, told, well)
		}
		wantForm(t, got, want, "Rest")
		wantAttributes(t, was, got, "Rest")
		wantProtected(t, was, got, "Rest")
	}
	if f, ok := field.Of(got, at); ok && well && f.Attr&1 == 0 {
		t.Fatalf("%v isn't modified", f)
	}
}

func TestRest(t *testing.T) { // P17.1, P17.2 and P17.3: from each place, attributes and protected fields too
	eachPlane(t, func(p *plane.Plane) {
		for at := range p.Len() {
			wantRest(t, p, at)
		}
	})
	r := rand.New(rand.NewSource(1))
	largePlanes(t, func(p *plane.Plane) {
		for _, at := range []int{0, 1, p.Len() / 2, p.Len() - 2, p.Len() - 1, r.Intn(p.Len())} {
			wantRest(t, p, at)
		}
	})
}

func TestRestOfNoPlace(t *testing.T) { // P17.1: nothing is turned
	try := func(p *plane.Plane) {
		was := formOf(p)
		for _, at := range noPlaces(p.Len()) {
			if at >= 0 && at < p.Len() {
				continue
			}
			if many, ok := Rest(p, at); many != 0 || ok {
				t.Fatalf("Rest(%d) of %d cells = %d %t", at, p.Len(), many, ok)
			}
			wantForm(t, p, was, "from no place")
		}
	}
	eachPlane(t, try)
	largePlanes(t, try)
}

func TestRestWrittenOut(t *testing.T) { // P17.1 and P17.2
	for _, c := range []struct {
		name, before string
		at           int
		after        string
		many         int
		ok           bool
	}{
		{"not formatted", "AbCD", 1, "A...", 3, true},
		{"not formatted, from the first place", "AbCD", 0, "....", 4, true},
		{"not formatted, from the last place", "AbCD", 3, "AbC.", 1, true},
		{"an open field, from its first place", "(ABC[D", 1, ")...[D", 3, true},
		{"an open field, from its last place", "(ABC[D", 3, ")AB.[D", 1, true},
		{"one that is modified", ")ABC[D", 2, ")A..[D", 2, true},
		{"one that is empty", "(..[D", 1, ")..[D", 2, true},
		{"a protected field", "(ABC[D", 5, "(ABC[D", 0, false},
		{"an open field's attribute", "(ABC[D", 0, "(ABC[D", 0, false},
		{"a protected field's attribute", "(ABC[D", 4, "(ABC[D", 0, false},
		{"round the end", "AB[C(DE", 5, "..[C)..", 4, true},
		{"round the end, from the last place", "AB[C(DE", 6, "..[C)D.", 3, true},
		{"round the end, from behind it", "AB[C(DE", 1, "A.[C)DE", 1, true},
		{"one field alone", "AB(CD", 4, "..)C.", 3, true},
		{"one field alone, all of it", "AB(CD", 3, "..)..", 4, true},
		{"one field alone, its last place", "AB(CD", 1, "A.)CD", 1, true},
		{"an attribute at the last place", "AB[C(", 0, "..[C)", 2, true},
		{"an attribute at the first place", "(AB", 2, ")A.", 1, true},
		{"between fields of no cells", "((A((", 2, "().((", 1, true},
		{"an attribute of no cells", "((A((", 3, "((A((", 0, false},
	} {
		p := laid(t, c.before)
		p.Point(p.Len() - 1)
		if many, ok := Rest(p, c.at); many != c.many || ok != c.ok || drawn(p) != c.after || p.Cursor() != p.Len()-1 {
			t.Errorf("%s: %q, %d %t, cursor %d; not %q, %d %t", c.name, drawn(p), many, ok, p.Cursor(), c.after, c.many, c.ok)
		}
	}
}

// wantInside lets a field's cells go, and tells where that isn't as the chapter's form has it, once and again.
func wantInside(t *testing.T, p *plane.Plane, f field.Field) *plane.Plane {
	t.Helper()
	want, got := formOf(p), p.Clone()
	told := want.inside(f.Start, f.Len)
	for range 2 {
		if many := Inside(got, f); many != told {
			t.Fatalf("Inside of %v of %d cells = %d, not %d", f, p.Len(), many, told)
		}
		wantForm(t, got, want, fmt.Sprint("Inside of ", f))
	}
	return got
}

func TestInside(t *testing.T) { // P17.1, P17.2 and P17.3: of each field, open and protected; its attribute stays, and all that is of others
	try := func(p *plane.Plane) {
		was := formOf(p)
		for f := range field.All(p) {
			got := wantInside(t, p, f)
			wantAttributes(t, was, got, "Inside")
			for at, c := range was.cells {
				if (c.Start || was.start(at) != f.Start) && got.At(at) != c {
					t.Fatalf("Inside of %v turned %d", f, at)
				}
			}
		}
	}
	eachPlane(t, try)
	largePlanes(t, try)
}

func TestInsideWrittenOut(t *testing.T) { // P17.1 and P17.2
	for _, c := range []struct {
		name, before string
		start        int
		after        string
		many         int
	}{
		{"an open field", "(AB[C", 0, "(..[C", 2},
		{"a protected field", "(AB]c", 3, "(AB].", 1},
		{"one that is modified", ")AB[C", 0, ")..[C", 2},
		{"round the end", "AB[C(D", 4, "..[C(.", 3},
		{"a field of no cells", "A()B", 1, "A()B", 0},
		{"one field alone", "A[BC", 1, ".[..", 3},
		{"an attribute alone", "[", 0, "[", 0},
		{"an attribute at the last place", "AB(C[", 4, "..(C[", 2},
	} {
		p := laid(t, c.before)
		p.Point(p.Len() - 1)
		f, ok := field.Of(p, c.start)
		if many := Inside(p, f); !ok || many != c.many || drawn(p) != c.after || p.Cursor() != p.Len()-1 {
			t.Errorf("%s: %q, %d, cursor %d; not %q, %d", c.name, drawn(p), many, p.Cursor(), c.after, c.many)
		}
	}
}

func TestInsideOfAnyField(t *testing.T) { // P17.1: the cells are those of layer 15's Places, whatever stands there
	eachPlane(t, func(p *plane.Plane) {
		if p.Len() > 6 {
			return
		}
		for start := range p.Len() {
			for many := -2; many < 3*p.Len()+2; many++ {
				f := field.Field{Start: start, Len: many, Attr: byte(many)}
				got := wantInside(t, p, f)
				// Nothing but these.
				among := map[int]bool{}
				for at := range field.Places(p, f) {
					among[at] = true
				}
				for at := range p.Len() {
					if among[at] && got.At(at) != (api.Cell{}) || !among[at] && got.At(at) != p.At(at) {
						t.Fatalf("Inside of %v of %d cells: %d is %v", f, p.Len(), at, got.At(at))
					}
				}
			}
		}
	})
}

func TestInsideOfNoField(t *testing.T) { // P17.1: one whose Start isn't there, or whose Len is below 0, turns nothing
	try := func(p *plane.Plane) {
		was := formOf(p)
		for _, n := range noPlaces(p.Len()) {
			if n >= 0 && n < p.Len() {
				continue
			}
			fields := []field.Field{{Start: n, Len: 3}, {Start: n, Len: n}, {Start: n, Len: math.MaxInt}, {Start: n}}
			if n < 0 {
				fields = append(fields, field.Field{Start: 0, Len: n}, field.Field{Start: p.Len() - 1, Len: n})
			}
			for _, f := range fields {
				if many := Inside(p, f); many != 0 {
					t.Fatalf("Inside of %v of %d cells = %d", f, p.Len(), many)
				}
				wantForm(t, p, was, "Inside of no field")
			}
		}
	}
	eachPlane(t, try)
	largePlanes(t, try)
}

func TestInsideOfMoreThanThereAre(t *testing.T) { // P17.1: no more cells become zero cells than there are, whatever Len a field has that isn't there
	for _, c := range []struct {
		name, before string
		start, many  int
		after        string
		told         int
	}{
		{"none", ")AB]C", 3, 0, ")AB]C", 0},
		{"up to the last cell", ")AB]C", 3, 1, ")AB].", 1},
		{"over another one's attribute", ")AB]C", 3, 3, "..B].", 3},
		{"all but its own attribute", ")AB]C", 3, 4, "...].", 4},
		{"all of them", ")AB]C", 3, 5, ".....", 5},
		{"one too many", ")AB]C", 3, 6, ".....", 5},
		{"not quite two rounds", ")AB]C", 3, 9, ".....", 5},
		{"two rounds", ")AB]C", 3, 10, ".....", 5},
		{"more than two", ")AB]C", 3, 11, ".....", 5},
		{"where no attribute stands", ")AB]C", 1, 7, ".....", 5},
		{"not formatted", "AbC", 2, 4, "...", 3},
		{"empty already", "...", 0, 8, "...", 3},
		{"a plane of one cell", "]", 0, 2, ".", 1},
	} {
		p := laid(t, c.before)
		p.Point(p.Len() - 1)
		for range 2 {
			if told := Inside(p, field.Field{Start: c.start, Len: c.many}); told != c.told || drawn(p) != c.after || p.Cursor() != p.Len()-1 {
				t.Errorf("%s: %q, %d, cursor %d; not %q, %d", c.name, drawn(p), told, p.Cursor(), c.after, c.told)
			}
		}
	}
}

func TestInsideOfGreatLen(t *testing.T) { // P1 and P17.1: it ends, and tells all cells, each once
	try := func(p *plane.Plane) {
		want := &form{cells: make([]api.Cell, p.Len()), cursor: p.Cursor()}
		for _, many := range []int{p.Len(), p.Len() + 1, 2*p.Len() - 1, 2 * p.Len(), 4097, 1 << 20, math.MaxInt32, 1 << 40, math.MaxInt - 1, math.MaxInt} {
			for _, start := range []int{0, p.Len() / 2, p.Len() - 1} {
				got := p.Clone()
				for range 2 {
					if told := Inside(got, field.Field{Start: start, Len: many}); told != p.Len() {
						t.Fatalf("Len %d: %d of %d cells", many, told, p.Len())
					}
					wantForm(t, got, want, "Inside")
				}
			}
		}
	}
	eachPlane(t, func(p *plane.Plane) {
		if p.Len() < 7 {
			try(p)
		}
	})
	largePlanes(t, try)
}

func TestNoPlane(t *testing.T) { // P1: a plane that was never made has nothing to let go
	for _, p := range []*plane.Plane{nil, new(plane.Plane)} {
		All(p)
		many, ok := Rest(p, 0)
		if Open(p) != 0 || many != 0 || ok || Inside(p, field.Field{Len: 3}) != 0 || p.Len() != 0 || p.Cursor() != 0 {
			t.Error("it has something")
		}
	}
}
