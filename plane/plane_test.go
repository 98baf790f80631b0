package plane

import (
	"math"
	"math/rand"
	"slices"
	"testing"

	"greenscreen/api"
)

// right are sizes that are right, wrong ones aren't.
var right = []api.Size{
	{Rows: 1, Cols: 1}, {Rows: 1, Cols: 2}, {Rows: 2, Cols: 1}, {Rows: 2, Cols: 3}, {Rows: 3, Cols: 2}, {Rows: 1, Cols: 132}, {Rows: 43, Cols: 1},
	{Rows: 24, Cols: 80}, {Rows: 43, Cols: 80}, {Rows: 27, Cols: 132}, {Rows: 31, Cols: 132}, {Rows: 32, Cols: 128}, {Rows: 43, Cols: 95},
}

var wrong = []api.Size{
	{}, {Rows: 0, Cols: 80}, {Rows: 24, Cols: 0}, {Rows: -1, Cols: 80}, {Rows: 24, Cols: -1}, {Rows: -2, Cols: -3},
	{Rows: 44, Cols: 1}, {Rows: 1, Cols: 133}, {Rows: 43, Cols: 132}, {Rows: 43, Cols: 96}, {Rows: 32, Cols: 129}, {Rows: 33, Cols: 128},
	{Rows: math.MaxInt, Cols: math.MaxInt}, {Rows: math.MinInt, Cols: math.MinInt}, {Rows: 1 << 32, Cols: 1 << 32}, {Rows: math.MinInt, Cols: -1},
}

// full is a cell of which no part is as at first.
var full = api.Cell{Byte: 0xC1, GE: true, Start: true, Light: 0xF2, Color: 0xF4}

// parts are cells that differ from one, each in one part alone.
func parts(c api.Cell) []api.Cell {
	out := []api.Cell{c, c, c, c, c}
	out[0].Byte++
	out[1].GE = !c.GE
	out[2].Start = !c.Start
	out[3].Light++
	out[4].Color++
	return out
}

// of is a plane of so many rows and columns.
func of(t *testing.T, rows, cols int) *Plane {
	t.Helper()
	return sized(t, api.Size{Rows: rows, Cols: cols})
}

func sized(t *testing.T, s api.Size) *Plane {
	t.Helper()
	p, e := New(s)
	if p == nil || e != api.OK {
		t.Fatalf("New(%v) = %v %d", s, p, e)
	}
	return p
}

// cells is all cells of a plane.
func cells(p *Plane) []api.Cell {
	var out []api.Cell
	for at := range p.Len() {
		out = append(out, p.At(at))
	}
	return out
}

// strew lets each cell of a plane be another one, and the cursor stand somewhere.
func strew(r *rand.Rand, p *Plane) {
	for at := range p.Len() {
		p.Set(at, someCell(r))
	}
	p.Point(r.Intn(p.Len()))
}

func someCell(r *rand.Rand) api.Cell {
	return api.Cell{Byte: byte(r.Intn(256)), GE: r.Intn(4) == 0, Start: r.Intn(4) == 0, Light: byte(r.Intn(3)), Color: byte(r.Intn(256))}
}

// noPlaces are numbers that are no place of so many cells.
func noPlaces(many int) []int {
	return []int{math.MinInt, math.MinInt + 1, math.MinInt32, -4097, -many - 1, -many, -2, -1, many, many + 1, 2*many + 1, 4097, math.MaxInt32, 1 << 32, math.MaxInt - 1, math.MaxInt}
}

// wantPlane tells what of a plane isn't as said.
func wantPlane(t *testing.T, p *Plane, size api.Size, all []api.Cell, cursor int) {
	t.Helper()
	if p.Size() != size || p.Len() != len(all) || p.Cursor() != cursor {
		t.Fatalf("size %v, %d cells, cursor %d, not %v, %d, %d", p.Size(), p.Len(), p.Cursor(), size, len(all), cursor)
	}
	for at, c := range all {
		if got := p.At(at); got != c {
			t.Fatalf("the cell at %d of %v is %v, not %v", at, size, got, c)
		}
	}
}

func TestNew(t *testing.T) { // P14.1: all is as at first
	for _, s := range right {
		wantPlane(t, sized(t, s), s, make([]api.Cell, s.Rows*s.Cols), 0)
	}
	for _, s := range wrong {
		if p, e := New(s); p != nil || e != api.ErrArg {
			t.Errorf("New(%v) = %v %d", s, p, e)
		}
	}
	for rows := -1; rows < 46; rows++ {
		for cols := -1; cols < 135; cols++ {
			p, e := New(api.Size{Rows: rows, Cols: cols})
			if well := rows >= 1 && rows <= 43 && cols >= 1 && cols <= 132 && rows*cols <= 4096; well != (e == api.OK) || well != (p != nil) {
				t.Errorf("New of %d and %d = %d", rows, cols, e)
			}
		}
	}
}

func TestNoPlace(t *testing.T) { // P14.1: nothing is there, and nothing is turned
	r := rand.New(rand.NewSource(1))
	for _, s := range right {
		p := sized(t, s)
		strew(r, p)
		p.Set(0, full)
		p.Set(p.Len()-1, full)
		was, cursor := cells(p), p.Cursor()
		for _, at := range noPlaces(p.Len()) {
			if at >= 0 && at < p.Len() {
				continue
			}
			if got := p.At(at); got != (api.Cell{}) {
				t.Errorf("At(%d) of %v = %v", at, s, got)
			}
			if p.Set(at, api.Cell{Byte: 0x7F}) {
				t.Errorf("Set(%d) of %v", at, s)
			}
			if p.Point(at) {
				t.Errorf("Point(%d) of %v", at, s)
			}
			wantPlane(t, p, s, was, cursor)
		}
	}
}

func TestSetTurnsOne(t *testing.T) { // P14.2: each place, the first and the last one too, and each part of a cell
	r := rand.New(rand.NewSource(2))
	for _, s := range right[:7] {
		p := sized(t, s)
		strew(r, p)
		for at := range p.Len() {
			for _, c := range append(parts(p.At(at)), full, api.Cell{}) {
				was, cursor := cells(p), p.Cursor()
				was[at] = c
				if !p.Set(at, c) {
					t.Fatalf("Set(%d, %v) of %v", at, c, s)
				}
				wantPlane(t, p, s, was, cursor)
			}
		}
	}
}

func TestSetOfLargePlanes(t *testing.T) { // P14.2: the places at the edges
	for _, s := range right[7:] {
		for _, at := range []int{0, 1, s.Cols - 1, s.Cols, s.Rows*s.Cols - 2, s.Rows*s.Cols - 1} {
			p := sized(t, s)
			want := make([]api.Cell, s.Rows*s.Cols)
			want[at] = full
			if !p.Set(at, full) {
				t.Errorf("Set(%d) of %v", at, s)
			}
			wantPlane(t, p, s, want, 0)
			if !p.Point(at) {
				t.Errorf("Point(%d) of %v", at, s)
			}
			wantPlane(t, p, s, want, at)
		}
	}
}

func TestPoint(t *testing.T) { // P14.1: the cursor is turned, and nothing else
	r := rand.New(rand.NewSource(3))
	for _, s := range right[:7] {
		p := sized(t, s)
		strew(r, p)
		was := cells(p)
		for range 2 {
			for at := p.Len() - 1; at >= 0; at-- {
				if !p.Point(at) {
					t.Fatalf("Point(%d) of %v", at, s)
				}
				wantPlane(t, p, s, was, at)
			}
		}
	}
}

func TestClear(t *testing.T) { // P14.1: cells and cursor as at first; done again it is the same
	r := rand.New(rand.NewSource(4))
	for _, s := range right {
		p := sized(t, s)
		strew(r, p)
		p.Set(0, full)
		p.Set(p.Len()-1, full)
		p.Point(p.Len() - 1)
		for range 2 {
			p.Clear()
			wantPlane(t, p, s, make([]api.Cell, s.Rows*s.Cols), 0)
		}
		if !Same(p, sized(t, s)) {
			t.Errorf("%v: not as a new one", s)
		}
		if at := p.Len() - 1; !p.Set(at, full) || p.At(at) != full || !p.Point(at) {
			t.Errorf("%v: it can't be used any more", s)
		}
	}
}

func TestClone(t *testing.T) { // P14.2: a clone goes its own way, whichever of both is turned
	r := rand.New(rand.NewSource(5))
	for _, s := range right {
		p := sized(t, s)
		strew(r, p)
		was, cursor := cells(p), p.Cursor()
		q := p.Clone()
		if p == q {
			t.Fatal("it is the same one")
		}
		wantPlane(t, q, s, was, cursor)
		for _, turned := range [][2]*Plane{{p, q}, {q, p}} {
			one, other := turned[0], turned[1]
			for _, at := range []int{0, p.Len() / 2, p.Len() - 1} {
				one.Set(at, parts(was[at])[r.Intn(5)])
				one.Point((cursor + 1) % p.Len())
				wantPlane(t, other, s, was, cursor)
			}
			one.Fill(0, 0, full)
			wantPlane(t, other, s, was, cursor)
			one.Clear()
			wantPlane(t, other, s, was, cursor)
			for at, c := range was {
				one.Set(at, c)
			}
			one.Point(cursor)
		}
		// A clone of a clone, too.
		last := q.Clone()
		q.Clear()
		p.Clear()
		wantPlane(t, last, s, was, cursor)
	}
}

// wantSame holds two planes against each other both ways.
func wantSame(t *testing.T, a, b *Plane, want bool) {
	t.Helper()
	if Same(a, b) != want || Same(b, a) != want {
		t.Fatalf("Same of %v and %v: %t %t, not %t", a, b, Same(a, b), Same(b, a), want)
	}
}

func TestSame(t *testing.T) { // P14.1: planes that differ in one part of a cell, or in the cursor, alone
	r := rand.New(rand.NewSource(6))
	for _, s := range right[:7] {
		p, q := sized(t, s), sized(t, s)
		wantSame(t, p, q, true)
		strew(r, p)
		q = p.Clone()
		wantSame(t, p, p, true)
		wantSame(t, p, q, true)
		for at := range p.Len() {
			for _, c := range parts(p.At(at)) {
				q.Set(at, c)
				wantSame(t, p, q, false)
				q.Set(at, p.At(at))
				wantSame(t, p, q, true)
			}
			q.Point(at)
			wantSame(t, p, q, at == p.Cursor())
			q.Point(p.Cursor())
		}
	}
}

func TestSameSize(t *testing.T) { // P14.1: planes that differ in the size alone, with as many cells and with others
	for _, a := range append(right, api.Size{Rows: 1, Cols: 6}, api.Size{Rows: 6, Cols: 1}, api.Size{Rows: 32, Cols: 80}, api.Size{Rows: 40, Cols: 64}) {
		for _, b := range append(right, api.Size{Rows: 1, Cols: 6}, api.Size{Rows: 6, Cols: 1}, api.Size{Rows: 32, Cols: 80}, api.Size{Rows: 40, Cols: 64}) {
			wantSame(t, sized(t, a), sized(t, b), a == b)
		}
	}
}

func TestFill(t *testing.T) { // P14.1: from each place to each place, round the end, and to itself
	r := rand.New(rand.NewSource(7))
	for _, s := range right[:5] {
		many := s.Rows * s.Cols
		for from := range many {
			for to := range many {
				p := sized(t, s)
				strew(r, p)
				want, cursor, told := cells(p), p.Cursor(), 0
				for at := from; told == 0 || at != to; at = (at + 1) % many {
					want[at] = full
					told++
				}
				if got := p.Fill(from, to, full); got != told {
					t.Fatalf("Fill(%d, %d) of %v = %d, not %d", from, to, s, got, told)
				}
				wantPlane(t, p, s, want, cursor)
				// Cells that are the same already count too.
				if got := p.Fill(from, to, full); got != told {
					t.Fatalf("Fill(%d, %d) of %v again = %d, not %d", from, to, s, got, told)
				}
			}
		}
	}
}

func TestFillOfNoPlace(t *testing.T) { // P14.1: nothing is turned
	r := rand.New(rand.NewSource(8))
	for _, s := range right {
		p := sized(t, s)
		strew(r, p)
		was, cursor := cells(p), p.Cursor()
		for _, n := range noPlaces(p.Len()) {
			if n >= 0 && n < p.Len() {
				continue
			}
			if a, b, c := p.Fill(n, 0, full), p.Fill(p.Len()-1, n, full), p.Fill(n, n, full); a != 0 || b != 0 || c != 0 {
				t.Errorf("Fill with %d of %v: %d %d %d", n, s, a, b, c)
			}
		}
		wantPlane(t, p, s, was, cursor)
	}
}

func TestFillExample(t *testing.T) { // P14.1
	p := of(t, 2, 3)
	if n := p.Fill(5, 1, api.Cell{Byte: 0xC1}); n != 2 {
		t.Errorf("%d cells", n)
	}
	if got := p.Rows(37); !slices.Equal(got, []string{"A  ", "  A"}) {
		t.Errorf("%q", got)
	}
}

func TestWhateverOrderOfCalls(t *testing.T) { // P14.1: held against a row of cells and a number
	r := rand.New(rand.NewSource(9))
	for range 300 {
		s := right[r.Intn(7)]
		p := sized(t, s)
		want, cursor := make([]api.Cell, s.Rows*s.Cols), 0
		place := func() int { return r.Intn(len(want)+4) - 2 }
		for range 60 {
			at, to, c := place(), place(), someCell(r)
			there := at >= 0 && at < len(want)
			switch r.Intn(6) {
			case 0, 1:
				if p.Set(at, c) != there {
					t.Fatalf("Set(%d) of %v", at, s)
				}
				if there {
					want[at] = c
				}
			case 2:
				if p.Point(at) != there {
					t.Fatalf("Point(%d) of %v", at, s)
				}
				if there {
					cursor = at
				}
			case 3:
				told := 0
				there = there && to >= 0 && to < len(want)
				for next := at; there && (told == 0 || next != to); next = (next + 1) % len(want) {
					want[next] = c
					told++
				}
				if p.Fill(at, to, c) != told {
					t.Fatalf("Fill(%d, %d) of %v", at, to, s)
				}
			case 4:
				old := p
				p = p.Clone()
				old.Fill(0, 0, c)
				old.Point(at)
			case 5:
				if r.Intn(5) == 0 {
					p.Clear()
					clear(want)
					cursor = 0
				}
			}
			wantPlane(t, p, s, want, cursor)
		}
	}
}

func TestNoCells(t *testing.T) { // P1: a plane that New didn't make has no cells, and no call of it panics
	for _, p := range []*Plane{nil, new(Plane)} {
		p.Clear()
		for _, at := range append(noPlaces(0), 0) {
			if p.At(at) != (api.Cell{}) || p.Set(at, full) || p.Point(at) || p.Text(37, at, 1) != "" || p.Fill(at, 0, full) != 0 || p.Fill(0, at, full) != 0 {
				t.Errorf("place %d", at)
			}
		}
		if p.Size() != (api.Size{}) || p.Len() != 0 || p.Cursor() != 0 || len(p.Rows(37)) != 0 || p.Find(37, "") != 0 || p.Find(37, " ") != -1 {
			t.Error("it has something")
		}
		wantSame(t, p, p.Clone(), true)
		wantSame(t, p, nil, true)
		wantSame(t, p, of(t, 1, 1), false)
	}
}
