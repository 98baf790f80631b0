package field

import (
	"iter"
	"math"
	"math/rand"
	"slices"
	"testing"

	"greenscreen/api"
	"greenscreen/plane"
)

// sizes are planes of one cell to nine.
var sizes = []api.Size{
	{Rows: 1, Cols: 1}, {Rows: 1, Cols: 2}, {Rows: 3, Cols: 1}, {Rows: 2, Cols: 2}, {Rows: 1, Cols: 5}, {Rows: 2, Cols: 3}, {Rows: 7, Cols: 1}, {Rows: 4, Cols: 2}, {Rows: 3, Cols: 3},
}

// of is a plane of so many rows and columns.
func of(t *testing.T, rows, cols int) *plane.Plane {
	t.Helper()
	p, e := plane.New(api.Size{Rows: rows, Cols: cols})
	if e != api.OK {
		t.Fatalf("%d rows of %d: %d", rows, cols, e)
	}
	return p
}

// strew lays any cells on a plane, attributes at these places alone, and the cursor somewhere.
func strew(r *rand.Rand, p *plane.Plane, isStart func(at int) bool) {
	for at := range p.Len() {
		p.Set(at, api.Cell{Byte: byte(r.Intn(256)), GE: r.Intn(3) == 0, Start: isStart(at), Light: byte(r.Intn(256)), Color: byte(r.Intn(256))})
	}
	p.Point(r.Intn(p.Len()))
}

// eachPlane tries planes of up to nine cells, with attributes at each choice of their places: none, one alone at each, at all.
func eachPlane(t *testing.T, try func(p *plane.Plane, starts []int)) {
	t.Helper()
	r := rand.New(rand.NewSource(21))
	for _, s := range sizes {
		p := of(t, s.Rows, s.Cols)
		for choice := range 1 << p.Len() {
			strew(r, p, func(at int) bool { return choice>>at&1 == 1 })
			try(p, startsOf(p))
		}
	}
}

// largePlanes tries great ones: without a field, with few, many, and nothing but attributes.
func largePlanes(t *testing.T, try func(p *plane.Plane, starts []int)) {
	t.Helper()
	r := rand.New(rand.NewSource(22))
	for _, s := range []api.Size{{Rows: 24, Cols: 80}, {Rows: 43, Cols: 95}, {Rows: 32, Cols: 128}} {
		for _, one := range []int{0, 1, 2, 7, 100, 1500} {
			p := of(t, s.Rows, s.Cols)
			strew(r, p, func(int) bool { return one > 0 && r.Intn(one) == 0 })
			try(p, startsOf(p))
		}
	}
}

func startsOf(p *plane.Plane) []int {
	var starts []int
	for at := range p.Len() {
		if p.At(at).Start {
			starts = append(starts, at)
		}
	}
	return starts
}

// fieldsOf is all fields, worked out from the places of the attributes alone.
func fieldsOf(p *plane.Plane, starts []int) []Field {
	var out []Field
	for i, start := range starts {
		next := starts[0] + p.Len()
		if i+1 < len(starts) {
			next = starts[i+1]
		}
		out = append(out, Field{Start: start, Len: next - start - 1, Attr: p.At(start).Byte % 64})
	}
	return out
}

// fieldAt is which of the fields a place belongs to, as its number: -1 of none.
func fieldAt(p *plane.Plane, starts []int, at int) int {
	if at < 0 || at >= p.Len() {
		return -1
	}
	for i := len(starts) - 1; i >= 0; i-- {
		if starts[i] <= at {
			return i
		}
	}
	// Ahead of the first attribute the last field goes on; without one this is -1.
	return len(starts) - 1
}

// cellsOf is the places of a field's cells.
func cellsOf(p *plane.Plane, f Field) []int {
	var out []int
	for i := range max(f.Len, 0) {
		out = append(out, (f.Start+1+i)%p.Len())
	}
	return out
}

// noPlaces are numbers that are no place of so many cells.
func noPlaces(many int) []int {
	return []int{math.MinInt, math.MinInt + 1, math.MinInt32, -many - 1, -many, -2, -1, many, many + 1, 2 * many, 4096, math.MaxInt32, 1 << 32, math.MaxInt - 1, math.MaxInt}
}

// wantStops breaks off what goes on behind each number of things: no more is told than is asked for.
func wantStops[T any](t *testing.T, all iter.Seq[T], many int) {
	t.Helper()
	for most := 1; most <= many; most++ {
		told := 0
		all(func(T) bool {
			told++
			return told < most
		})
		if told != most {
			t.Fatalf("%d were told, not %d", told, most)
		}
	}
}

func TestFormatted(t *testing.T) { // P15.1
	try := func(p *plane.Plane, starts []int) {
		if got := Formatted(p); got != (len(starts) > 0) {
			t.Fatalf("Formatted with attributes at %v: %t", starts, got)
		}
	}
	eachPlane(t, try)
	largePlanes(t, try)
}

func TestBeforeAndAfter(t *testing.T) { // P15.1: at each place; -1 without a field
	eachPlane(t, func(p *plane.Plane, starts []int) {
		for at := range p.Len() {
			before, after := -1, -1
			if i := fieldAt(p, starts, at); i >= 0 {
				before, after = starts[i], starts[(i+1)%len(starts)]
			}
			if a, b := Before(p, at), After(p, at); a != before || b != after {
				t.Fatalf("%d cells, attributes at %v: Before(%d) = %d, After %d, not %d and %d", p.Len(), starts, at, a, b, before, after)
			}
		}
	})
}

func TestNoPlace(t *testing.T) { // P15.1: to what isn't there nothing belongs, and nothing is turned
	try := func(p *plane.Plane, starts []int) {
		was := p.Clone()
		for _, at := range noPlaces(p.Len()) {
			if at >= 0 && at < p.Len() {
				continue
			}
			f, ok := Of(p, at)
			if Before(p, at) != -1 || After(p, at) != -1 || f != (Field{}) || ok || Open(p, at) || Mark(p, at) {
				t.Fatalf("%d of %d cells, attributes at %v: %d %d %v %t %t", at, p.Len(), starts, Before(p, at), After(p, at), f, ok, Open(p, at))
			}
			for range Places(p, Field{Start: at, Len: 3}) {
				t.Fatalf("%d of %d cells: it has places", at, p.Len())
			}
			for _, attribute := range []byte{0, 0x0C} {
				no := Field{Start: at, Len: 3, Attr: attribute}
				if data, text := Data(p, no), Text(p, 37, no); len(data) != 0 || text != "" {
					t.Fatalf("%d of %d cells: % X %q", at, p.Len(), data, text)
				}
			}
		}
		if !plane.Same(p, was) {
			t.Fatal("something was turned")
		}
	}
	eachPlane(t, try)
	largePlanes(t, try)
}

func TestOf(t *testing.T) { // P15.1: at each place, the attribute's too
	try := func(p *plane.Plane, starts []int) {
		fields := fieldsOf(p, starts)
		for at := range p.Len() {
			var want Field
			i := fieldAt(p, starts, at)
			if i >= 0 {
				want = fields[i]
			}
			if got, ok := Of(p, at); got != want || ok != (i >= 0) {
				t.Fatalf("%d cells, attributes at %v: Of(%d) = %v %t, not %v", p.Len(), starts, at, got, ok, want)
			}
		}
	}
	eachPlane(t, try)
	largePlanes(t, try)
}

func TestAttrIsSixBits(t *testing.T) { // P15.1: the lowest six of all 256
	p := of(t, 1, 3)
	for b := range 256 {
		p.Set(1, api.Cell{Byte: byte(b), Start: true})
		want := Field{Start: 1, Len: 2, Attr: byte(b % 64)}
		if got, ok := Of(p, 0); got != want || !ok {
			t.Errorf("%02X: %v %t", b, got, ok)
		}
		if got := slices.Collect(All(p)); !slices.Equal(got, []Field{want}) {
			t.Errorf("%02X: %v", b, got)
		}
	}
}

func TestAll(t *testing.T) { // P15.1: whole, twice, broken off early
	try := func(p *plane.Plane, starts []int) {
		want := fieldsOf(p, starts)
		all := All(p)
		for range 2 {
			if got := slices.Collect(all); !slices.Equal(got, want) {
				t.Fatalf("%d cells: %v, not %v", p.Len(), got, want)
			}
		}
		if len(want) < 10 {
			wantStops(t, all, len(want))
		}
		for f := range all {
			if f != want[0] {
				t.Fatalf("%v, not %v", f, want[0])
			}
			break
		}
		if got := slices.Collect(all); !slices.Equal(got, want) {
			t.Fatalf("behind one that was broken off: %v, not %v", got, want)
		}
	}
	eachPlane(t, try)
	largePlanes(t, try)
}

func TestAllWithinItself(t *testing.T) { // P15.1: two that go over it at one time don't see each other
	p := of(t, 1, 6)
	for _, at := range []int{1, 2, 5} {
		p.Set(at, api.Cell{Start: true})
	}
	all := All(p)
	var got []int
	for a := range all {
		for b := range all {
			got = append(got, a.Start*10+b.Start)
		}
	}
	if want := []int{11, 12, 15, 21, 22, 25, 51, 52, 55}; !slices.Equal(got, want) {
		t.Errorf("%v, not %v", got, want)
	}
}

func TestAllAsksWhenItIsAsked(t *testing.T) { // P15.1: it makes nothing ahead of being gone over, and nothing behind what is asked for
	p := of(t, 1, 6)
	all := All(p)
	places := Places(p, Field{Start: 4, Len: 2})
	p.Set(4, api.Cell{Start: true, Byte: 0x20})
	if got := slices.Collect(all); !slices.Equal(got, []Field{{Start: 4, Len: 5, Attr: 0x20}}) {
		t.Errorf("%v", got)
	}
	if got := slices.Collect(places); !slices.Equal(got, []int{5, 0}) {
		t.Errorf("%v", got)
	}
	p.Set(1, api.Cell{Start: true})
	var got []Field
	for f := range all {
		got = append(got, f)
		p.Set(4, api.Cell{})
		p.Set(5, api.Cell{Start: true, Byte: 1})
	}
	if want := []Field{{Start: 1, Len: 2}, {Start: 5, Len: 1, Attr: 1}}; !slices.Equal(got, want) {
		t.Errorf("%v, not %v", got, want)
	}
}

func TestEachCellOnce(t *testing.T) { // P15.2
	try := func(p *plane.Plane, starts []int) {
		many := make([]int, p.Len())
		for f := range All(p) {
			many[f.Start]++
			for at := range Places(p, f) {
				many[at]++
				if owner, ok := Of(p, at); owner != f || !ok {
					t.Fatalf("%d cells, attributes at %v: %d is of %v, not %v", p.Len(), starts, at, owner, f)
				}
			}
		}
		want := 0
		if Formatted(p) {
			want = 1
		}
		for at, n := range many {
			if n != want {
				t.Fatalf("%d cells, attributes at %v: %d stands %d times", p.Len(), starts, at, n)
			}
		}
	}
	eachPlane(t, try)
	largePlanes(t, try)
}

func TestExample(t *testing.T) { // P15.1: of five cells, Start at 3
	p := of(t, 1, 5)
	p.Set(3, api.Cell{Start: true})
	f, ok := Of(p, 1)
	if f != (Field{Start: 3, Len: 4}) || !ok || !slices.Equal(slices.Collect(Places(p, f)), []int{4, 0, 1, 2}) {
		t.Errorf("%v %t", f, ok)
	}
}

func TestNoCells(t *testing.T) { // P1: a plane that was never made has no place and no field
	for _, p := range []*plane.Plane{nil, new(plane.Plane)} {
		f := Field{Len: 3}
		_, ok := Of(p, 0)
		if Formatted(p) || Before(p, 0) != -1 || After(p, 0) != -1 || ok || Open(p, 0) || Mark(p, 0) || Unmark(p) != 0 || Home(p) != 0 {
			t.Error("it has something")
		}
		if len(slices.Collect(All(p))) != 0 || len(slices.Collect(Places(p, f))) != 0 || len(Data(p, f)) != 0 || Text(p, 37, f) != "" {
			t.Error("it has fields")
		}
	}
}
