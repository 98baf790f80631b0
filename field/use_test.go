package field

import (
	"bytes"
	"math"
	"math/rand"
	"slices"
	"strings"
	"testing"

	"greenscreen/api"
	"greenscreen/attr"
	"greenscreen/plane"
)

// wantPlaces tells what of a field's places, and of its bytes, isn't as said.
func wantPlaces(t *testing.T, p *plane.Plane, f Field) {
	t.Helper()
	want := cellsOf(p, f)
	places := Places(p, f)
	for range 2 {
		if got := slices.Collect(places); !slices.Equal(got, want) {
			t.Fatalf("Places of %v, of %d cells: %v, not %v", f, p.Len(), got, want)
		}
	}
	var data []byte
	for _, at := range want {
		data = append(data, p.At(at).Byte)
	}
	if got := Data(p, f); !bytes.Equal(got, data) {
		t.Fatalf("Data of %v, of %d cells: % X, not % X", f, p.Len(), got, data)
	}
}

func TestPlacesAndData(t *testing.T) { // P15.1: of each field, gone over twice, and broken off
	try := func(p *plane.Plane, starts []int) {
		for f := range All(p) {
			wantPlaces(t, p, f)
			if f.Len < 10 {
				wantStops(t, Places(p, f), f.Len)
			}
		}
	}
	eachPlane(t, try)
	largePlanes(t, try)
}

func TestPlacesOfAnyField(t *testing.T) { // P15.1: so many cells from behind Start on, whatever stands there; they go round as often as it takes
	r := rand.New(rand.NewSource(31))
	for _, s := range sizes {
		p := of(t, s.Rows, s.Cols)
		for range 5 {
			strew(r, p, func(int) bool { return r.Intn(3) == 0 })
			for start := range p.Len() {
				for many := -2; many < 3*p.Len()+2; many++ {
					f := Field{Start: start, Len: many, Attr: byte(r.Intn(256))}
					wantPlaces(t, p, f)
					wantStops(t, Places(p, f), many)
				}
				for _, many := range []int{math.MinInt, math.MinInt32, -4096} {
					wantPlaces(t, p, Field{Start: start, Len: many})
				}
				// No more is made than is asked for.
				wantStops(t, Places(p, Field{Start: start, Len: math.MaxInt}), 5)
			}
		}
	}
}

func TestPlacesWithinThemselves(t *testing.T) { // P15.1: two that go over them at one time don't see each other
	p := of(t, 1, 4)
	places := Places(p, Field{Start: 2, Len: 3})
	var got []int
	for a := range places {
		for b := range places {
			got = append(got, a*10+b)
		}
	}
	if want := []int{33, 30, 31, 3, 0, 1, 13, 10, 11}; !slices.Equal(got, want) {
		t.Errorf("%v, not %v", got, want)
	}
}

func TestDataMemory(t *testing.T) { // P2: each answer is new memory
	p := of(t, 1, 5)
	p.Fill(0, 0, api.Cell{Byte: 0xC1})
	f := Field{Start: 0, Len: 3}
	was := p.Clone()
	first, second := Data(p, f), Data(p, f)
	clear(first[:cap(first)])
	if string(second) != "\xC1\xC1\xC1" || !plane.Same(p, was) {
		t.Errorf("% X", second)
	}
	p.Clear()
	if string(second) != "\xC1\xC1\xC1" {
		t.Errorf("% X", second)
	}
}

func TestOpen(t *testing.T) { // P15.1: at each place, with fields and without, protected and not
	try := func(p *plane.Plane, starts []int) {
		for at := range p.Len() {
			want := len(starts) == 0
			if i := fieldAt(p, starts, at); i >= 0 {
				want = starts[i] != at && p.At(starts[i]).Byte&32 == 0
			}
			if got := Open(p, at); got != want {
				t.Fatalf("%d cells, attributes at %v: Open(%d) = %t", p.Len(), starts, at, got)
			}
		}
	}
	eachPlane(t, try)
	largePlanes(t, try)
}

func TestOpenOfEachAttribute(t *testing.T) { // P15.1: nothing but the bit 32 counts
	p := of(t, 2, 2)
	for b := range 256 {
		p.Set(1, api.Cell{Byte: byte(b), Start: true})
		for at := range 4 {
			if got := Open(p, at); got != (at != 1 && b&32 == 0) {
				t.Errorf("%02X: Open(%d) = %t", b, at, got)
			}
		}
	}
}

func TestMark(t *testing.T) { // P15.3: at each place, the attribute's too; of a plane without a field nothing
	eachPlane(t, func(p *plane.Plane, starts []int) {
		for at := range p.Len() {
			got, want := p.Clone(), p.Clone()
			i := fieldAt(p, starts, at)
			if i >= 0 {
				c := want.At(starts[i])
				c.Byte |= 1
				want.Set(starts[i], c)
			}
			for range 2 { // done again it is the same
				if ok := Mark(got, at); ok != (i >= 0) || !plane.Same(got, want) {
					t.Fatalf("%d cells, attributes at %v: Mark(%d) = %t", p.Len(), starts, at, ok)
				}
			}
			if f, ok := Of(got, at); ok && !attr.Modified(f.Attr) {
				t.Fatalf("%d cells, attributes at %v: Mark(%d) is told by %v", p.Len(), starts, at, f)
			}
		}
	})
}

func TestMarkOfEachAttribute(t *testing.T) { // P15.3: the other bits stay, and how it looks does
	p := of(t, 1, 3)
	for b := range 256 {
		c := api.Cell{Byte: byte(b), GE: b%2 == 0, Start: true, Light: 0xF2, Color: 0xF4}
		p.Set(2, c)
		want := c
		want.Byte |= 1
		if !Mark(p, 0) || p.At(2) != want {
			t.Errorf("%02X: %v", b, p.At(2))
		}
		want.Byte &^= 1
		if Unmark(p) != 1 || p.At(2) != want || p.At(0) != (api.Cell{}) || p.At(1) != (api.Cell{}) {
			t.Errorf("%02X: %v, unmarked", b, p.At(2))
		}
	}
}

func TestUnmark(t *testing.T) { // P15.1 and P15.3: how many were, and none any more; other cells with that bit stay
	try := func(p *plane.Plane, starts []int) {
		got, want, many := p.Clone(), p.Clone(), 0
		for _, start := range starts {
			c := want.At(start)
			many += int(c.Byte & 1)
			c.Byte &= 0xFE
			want.Set(start, c)
		}
		for _, told := range []int{many, 0} {
			if n := Unmark(got); n != told || !plane.Same(got, want) {
				t.Fatalf("%d cells, attributes at %v: Unmark = %d, not %d", p.Len(), starts, n, told)
			}
		}
		// Each of all marked is told.
		for _, start := range starts {
			Mark(got, start)
		}
		if n := Unmark(got); n != len(starts) || !plane.Same(got, want) {
			t.Fatalf("%d cells, attributes at %v: Unmark = %d behind Mark of all", p.Len(), starts, n)
		}
	}
	eachPlane(t, try)
	largePlanes(t, try)
}

// wantedHome is Home, worked out from the places of the attributes.
func wantedHome(p *plane.Plane, starts []int) int {
	for _, start := range starts {
		first := (start + 1) % p.Len()
		if p.At(start).Byte&32 == 0 && !p.At(first).Start {
			return first
		}
	}
	return 0
}

func TestHome(t *testing.T) { // P15.1
	try := func(p *plane.Plane, starts []int) {
		got := Home(p)
		if want := wantedHome(p, starts); got != want {
			t.Fatalf("%d cells, attributes at %v: Home = %d, not %d", p.Len(), starts, got, want)
		}
		if got != 0 && !Open(p, got) {
			t.Fatalf("%d cells, attributes at %v: nothing may be typed at %d", p.Len(), starts, got)
		}
	}
	eachPlane(t, try)
	largePlanes(t, try)
}

func TestHomeWrittenOut(t *testing.T) { // P15.1
	const open, shut = 0x00, 0x20
	for _, c := range []struct {
		name  string
		attrs map[int]byte
		want  int
	}{
		{"no field", nil, 0},
		{"protected fields alone", map[int]byte{0: shut, 3: shut}, 0},
		{"a field of no cells", map[int]byte{2: open, 3: shut}, 0},
		{"a field of no cells at the end", map[int]byte{5: open, 0: shut}, 0},
		{"a field of no cells ahead of another one", map[int]byte{2: open, 3: open}, 4},
		{"one field", map[int]byte{2: open}, 3},
		{"one field that goes round the end", map[int]byte{5: open}, 0},
		{"one that goes round the end, behind a protected one", map[int]byte{2: shut, 4: open}, 5},
		{"one with its attribute at the last place, behind another one", map[int]byte{2: open, 5: open}, 3},
		{"one with its attribute at the last place, behind a protected one", map[int]byte{2: shut, 5: open}, 0},
		{"a protected one ahead", map[int]byte{0: shut, 2: open, 4: open}, 3},
		{"the first place of all", map[int]byte{0: open, 3: open}, 1},
		{"nothing but attributes", map[int]byte{0: open, 1: open, 2: open, 3: open, 4: open, 5: open}, 0},
	} {
		p := of(t, 2, 3)
		p.Point(4)
		for at, b := range c.attrs {
			p.Set(at, api.Cell{Byte: b, Start: true})
		}
		if got := Home(p); got != c.want || p.Cursor() != 4 {
			t.Errorf("%s: %d, not %d", c.name, got, c.want)
		}
	}
}

// wantedText is what is seen of a field, cell by cell.
func wantedText(p *plane.Plane, page int, f Field) string {
	out := ""
	for _, at := range cellsOf(p, f) {
		if f.Attr/4%4 == 3 {
			out += " "
		} else {
			out += p.Text(page, at, 1)
		}
	}
	return out
}

func TestText(t *testing.T) { // P15.1: of shown and of hidden fields
	try := func(p *plane.Plane, starts []int) {
		for f := range All(p) {
			for _, page := range []int{37, 500, 0} {
				if got, want := Text(p, page, f), wantedText(p, page, f); got != want {
					t.Fatalf("%v of %d cells: %q, not %q", f, p.Len(), got, want)
				}
			}
		}
	}
	eachPlane(t, try)
	largePlanes(t, try)
}

func TestTextOfAnyField(t *testing.T) { // P15.1: of as many cells as its Places are
	r := rand.New(rand.NewSource(32))
	for _, s := range sizes {
		p := of(t, s.Rows, s.Cols)
		strew(r, p, func(int) bool { return r.Intn(3) == 0 })
		for start := range p.Len() {
			for many := -2; many < 3*p.Len()+2; many++ {
				f := Field{Start: start, Len: many, Attr: byte(r.Intn(256))}
				if got, want := Text(p, 37, f), wantedText(p, 37, f); got != want {
					t.Fatalf("%v of %d cells: %q, not %q", f, p.Len(), got, want)
				}
			}
			for _, attribute := range []byte{0, 0x0C} {
				if got := Text(p, 37, Field{Start: start, Len: math.MinInt, Attr: attribute}); got != "" {
					t.Fatalf("%q", got)
				}
			}
		}
	}
}

func TestTextOfEachAttribute(t *testing.T) { // P15.1: hidden is 3 of the two bits that tell how it is shown
	p := of(t, 1, 5)
	for at, b := range []byte{0xC2, 0xC3, 0, 0xC1, 0x4A} {
		p.Set(at, api.Cell{Byte: b})
	}
	for b := range 256 {
		p.Set(2, api.Cell{Byte: byte(b), Start: true})
		f, _ := Of(p, 0)
		want := "A\u00A2BC"
		if b&12 == 12 {
			want = strings.Repeat(" ", 4)
		}
		if got := Text(p, 37, f); got != want {
			t.Errorf("%02X: %q, not %q", b, got, want)
		}
	}
}

func TestAskingTurnsNothing(t *testing.T) { // P15.1: a plane is as it was behind every call but Mark and Unmark
	try := func(p *plane.Plane, starts []int) {
		was := p.Clone()
		Formatted(p)
		Home(p)
		for f := range All(p) {
			Data(p, f)
			Text(p, 37, f)
			for at := range Places(p, f) {
				Before(p, at)
				After(p, at)
				Of(p, at)
				Open(p, at)
			}
		}
		if !plane.Same(p, was) {
			t.Fatalf("%d cells, attributes at %v: something was turned", p.Len(), starts)
		}
	}
	eachPlane(t, try)
}
