package caret

import (
	"fmt"
	"math"
	"math/rand"
	"slices"
	"strings"
	"testing"

	"greenscreen/api"
	"greenscreen/plane"
)

func TestExample(t *testing.T) { // P19.1
	p := laid(t, "(A[(BC")
	p.Point(1)
	for _, want := range []int{4, 1, 4, 1} {
		if at := Tab(p); at != want || p.Cursor() != want {
			t.Errorf("%d, the cursor at %d, not %d", at, p.Cursor(), want)
		}
	}
}

// wantCall does a call with the cursor at a place, and tells where that isn't as the chapter's form has it: P19.1, and P19.2.
func wantCall(t *testing.T, p *plane.Plane, was *form, at int, c call) {
	t.Helper()
	p.Point(at)
	was.cursor = at
	want := c.form(was)
	what := fmt.Sprintf("%s from %d on %v", c.name, at, was.size)
	got := c.do(p)
	if got != want {
		t.Fatalf("%s = %d, not %d: %v", what, got, want, was.cells)
	}
	if p.Cursor() != got {
		t.Fatalf("%s = %d, but the cursor is at %d", what, got, p.Cursor())
	}
	wantCells(t, p, was, what)
	if c.open && (len(was.entries()) > 0 || was.start(0) < 0) && !was.isOpen(got) {
		t.Fatalf("%s = %d: nothing may be typed there", what, got)
	}
}

func TestCalls(t *testing.T) { // P19.1 and P19.2: from each place, held against the chapter's form
	eachPlane(t, func(p *plane.Plane) {
		was := formOf(p)
		for _, c := range calls() {
			for at := range p.Len() {
				wantCall(t, p, was, at, c)
			}
		}
	})
}

func TestCallsOfGreatPlanes(t *testing.T) { // P19.1 and P19.2
	largePlanes(t, func(r *rand.Rand, p *plane.Plane) {
		was := formOf(p)
		for _, c := range calls() {
			for _, at := range edges(r, p) {
				wantCall(t, p, was, at, c)
			}
		}
	})
}

func TestCallsOfEachAttribute(t *testing.T) { // P19.1 and P19.2: two bits of an attribute's byte count, and nothing else of its cell
	for b := range 256 {
		for _, look := range []api.Cell{{}, {GE: true, Light: 0xF2, Color: 0xF5}} {
			p := laid(t, "A(B", "<C[", "DE.")
			look.Start, look.Byte = true, byte(b)
			p.Set(5, look)
			was := formOf(p)
			for _, c := range calls() {
				for at := range p.Len() {
					wantCall(t, p, was, at, c)
				}
			}
		}
	}
}

// wantMove moves with the cursor at a place.
func wantMove(t *testing.T, p *plane.Plane, was *form, at, rows, cols int) {
	t.Helper()
	p.Point(at)
	was.cursor = at
	if got, want := Move(p, rows, cols), was.move(rows, cols); got != want || p.Cursor() != want {
		t.Fatalf("Move(%d, %d) from %d on %v = %d, the cursor at %d, not %d", rows, cols, at, was.size, got, p.Cursor(), want)
	}
	wantCells(t, p, was, "Move")
}

func TestMove(t *testing.T) { // P19.1 and P19.2: from each place, by whatever numbers, round in all places; attributes don't count
	r := rand.New(rand.NewSource(1))
	for _, s := range sizes {
		p := sized(t, s)
		strew(r, p, func(int) bool { return r.Intn(3) == 0 }, func() byte { return byte(r.Intn(256)) })
		was := formOf(p)
		for at := range p.Len() {
			for _, rows := range slices.Concat(steps(s.Rows), steps(p.Len())) {
				for _, cols := range slices.Concat(steps(s.Cols), steps(p.Len())) {
					wantMove(t, p, was, at, rows, cols)
				}
			}
		}
	}
}

func TestMoveOnGreatPlanes(t *testing.T) { // P19.1
	for _, s := range []api.Size{{Rows: 24, Cols: 80}, {Rows: 43, Cols: 95}, {Rows: 32, Cols: 128}, {Rows: 1, Cols: 132}, {Rows: 43, Cols: 1}, {Rows: 31, Cols: 132}} {
		p := sized(t, s)
		was := formOf(p)
		for _, at := range []int{0, 1, s.Cols - 1, p.Len() / 2, p.Len() - 1} {
			for _, rows := range steps(s.Rows) {
				for _, cols := range append(steps(s.Cols), p.Len()-1, p.Len(), p.Len()+1) {
					wantMove(t, p, was, at, rows, cols)
				}
			}
		}
	}
}

func TestMoveWrittenOut(t *testing.T) { // P19.1
	for _, c := range []struct{ at, rows, cols, want int }{
		{0, 0, 0, 0},
		{0, 1, 0, 80},
		{0, 0, 1, 1},
		{79, 0, 1, 80},
		{80, 0, -1, 79},
		{0, 0, -1, 1919},
		{0, -1, 0, 1840},
		{1919, 0, 1, 0},
		{1919, 1, 0, 79},
		{1919, 1, 1, 80},
		{85, 24, 0, 85},
		{85, -24, 0, 85},
		{85, 25, -5, 160},
		{85, -26, 80, 5},
		{0, 0, 1920, 0},
		{0, 0, -1921, 1919},
		{7, 24 * 1000, 1920 * 1000, 7},
		// MaxInt is 7 above a whole number of 24 rows, and 127 above one of 1920 cells.
		{0, math.MaxInt, 0, 7 * 80},
		{0, math.MinInt, 0, 16 * 80},
		{0, 0, math.MaxInt, 127},
		{0, 0, math.MinInt, 1792},
		{1919, math.MaxInt, math.MaxInt, 7*80 + 126},
	} {
		p := sized(t, api.Size{Rows: 24, Cols: 80})
		p.Point(c.at)
		if got := Move(p, c.rows, c.cols); got != c.want || p.Cursor() != c.want {
			t.Errorf("Move(%d, %d) from %d = %d, the cursor at %d, not %d", c.rows, c.cols, c.at, got, p.Cursor(), c.want)
		}
	}
}

// a drawnCase tells to which place a call comes from each place of a plane.
type drawnCase struct {
	name, rows string // rows stand between blanks
	want       []int
}

// wantDrawn holds a call against cases that are written out.
func wantDrawn(t *testing.T, do func(p *plane.Plane) int, cases []drawnCase) {
	t.Helper()
	for _, c := range cases {
		p := laid(t, strings.Fields(c.rows)...)
		if p.Len() != len(c.want) {
			t.Fatalf("%s: %d places, not %d", c.name, len(c.want), p.Len())
		}
		was := formOf(p)
		for at, want := range c.want {
			p.Point(at)
			if got := do(p); got != want || p.Cursor() != want {
				t.Errorf("%s: from %d to %d, the cursor at %d, not %d", c.name, at, got, p.Cursor(), want)
			}
			wantCells(t, p, was, c.name)
		}
	}
}

func TestTabWrittenOut(t *testing.T) { // P19.1 and P19.2
	wantDrawn(t, Tab, []drawnCase{
		{"not formatted", "AB CD", []int{0, 0, 0, 0}},
		{"one cell", "A", []int{0}},
		{"one attribute alone", "(", []int{0}},
		{"one field alone", "AB(C", []int{3, 3, 3, 3}},
		{"one field alone, its attribute at the last place", "ABC(", []int{0, 0, 0, 0}},
		{"all are protected", "A[B {C]", []int{0, 0, 0, 0, 0, 0}},
		{"open ones without cells", "((([A", []int{0, 0, 0, 0, 0}},
		{"one with cells among these", "(((A(", []int{3, 3, 3, 3, 3}},
		{"from an attribute's own place", "(A(B", []int{1, 3, 3, 1}},
		{"from within the last one, round the end", "A(B[C(DEF", []int{2, 2, 6, 6, 6, 6, 2, 2, 2}},
		{"over protected and skipped ones", "(A[B{C<D", []int{1, 7, 7, 7, 7, 7, 7, 1}},
		{"to one that goes round the end", "A[B(", []int{0, 0, 0, 0}},
		{"numeric ones, and modified ones", "<A)B>C]D}E", []int{1, 3, 3, 5, 5, 1, 1, 1, 1, 1}},
		{"over rows", "A( B[ C( D[", []int{2, 2, 6, 6, 6, 6, 2, 2}},
	})
}

func TestBackWrittenOut(t *testing.T) { // P19.1 and P19.2
	wantDrawn(t, Back, []drawnCase{
		{"not formatted", "AB CD", []int{0, 0, 0, 0}},
		{"one cell", "A", []int{0}},
		{"one attribute alone", "(", []int{0}},
		{"one field alone, from its first place to itself", "AB(C", []int{3, 3, 3, 3}},
		{"one field alone, its attribute at the last place", "ABC(", []int{0, 0, 0, 0}},
		{"all are protected", "A[B {C]", []int{0, 0, 0, 0, 0, 0}},
		{"open ones without cells", "((([A", []int{0, 0, 0, 0, 0}},
		{"one with cells among these", "(((A(", []int{3, 3, 3, 3, 3}},
		// From 0, an attribute's own, to the field ahead; from 1, a first place, too; from 2 and 3 to 1.
		{"two fields", "(ABC(DEF", []int{5, 5, 1, 1, 1, 1, 5, 5}},
		{"a protected one between", "(AB[CD(EF", []int{7, 7, 1, 1, 1, 1, 1, 1, 7}},
		{"round the end", "AB[C(D", []int{5, 5, 5, 5, 5, 5}},
		{"round the end, beside another one", "AB(C[D(E", []int{7, 7, 7, 7, 3, 3, 3, 3}},
		{"an attribute at the last place", "AB[C(D(", []int{5, 0, 0, 0, 0, 0, 5}},
		{"fields of one cell", "(A(B(C", []int{5, 5, 1, 1, 3, 3}},
		{"numeric ones, and modified ones", "<A)B>C]D}E", []int{5, 5, 1, 1, 3, 3, 5, 5, 5, 5}},
		{"over rows", "A( B[ C( D[", []int{6, 6, 6, 2, 2, 2, 2, 6}},
	})
}

func TestNewlineWrittenOut(t *testing.T) { // P19.1 and P19.2
	wantDrawn(t, Newline, []drawnCase{
		{"not formatted", "AB CD EF", []int{2, 2, 4, 4, 0, 0}},
		{"one row", "ABC", []int{0, 0, 0}},
		{"one cell", "A", []int{0}},
		{"one attribute alone", "(", []int{0}},
		{"one column", "A ( B", []int{2, 2, 0}},
		{"one row, its first place an attribute's", "(AB", []int{1, 1, 1}},
		{"one row, its first place in a field that goes round", "AB(C", []int{0, 0, 0, 0}},
		{"all are protected", "A[B {C]", []int{0, 0, 0, 0, 0, 0}},
		{"open ones without cells", "(( [A", []int{0, 0, 0, 0}},
		{"the next row begins within an open field", "A(B CDE", []int{3, 3, 3, 0, 0, 0}},
		{"the next row begins with an open field's attribute", "[AB (CD", []int{4, 4, 4, 4, 4, 4}},
		{"its first open place stands behind others", "(AB [C( DEF", []int{6, 6, 6, 6, 6, 6, 1, 1, 1}},
		{"the next row has none", "(AB [CD EF( GHI", []int{9, 9, 9, 9, 9, 9, 9, 9, 9, 1, 1, 1}},
		{"the rows behind it have none, nor has the first one up to the cursor", "[(A {BC D[E", []int{2, 2, 2, 2, 2, 2, 2, 2, 2}},
		{"round the end", "[A( B[C", []int{3, 3, 3, 3, 3, 3}},
		{"from the last row", "(A [B", []int{1, 1, 1, 1}},
		{"an attribute at the last place", "AB [(", []int{0, 0, 0, 0}},
	})
}

func TestHomeWrittenOut(t *testing.T) { // P19.1 and P19.2
	for _, c := range []struct {
		name, rows string
		want       int
	}{
		{"not formatted", "AB CD", 0},
		{"one cell", "A", 0},
		{"one attribute alone", "(", 0},
		{"an open field at first", "(AB [CD", 1},
		{"a protected one ahead", "[A {B (C", 5},
		{"within an open field at first", "AB (C", 3},
		{"all are protected", "A[B {C]", 0},
		{"open ones without cells", "(( [A", 0},
		{"one with cells behind these", "(([ ({< (AB", 7},
		{"an attribute at the last place", "AB [(", 0},
	} {
		for at := range len(strings.ReplaceAll(c.rows, " ", "")) {
			p := laid(t, strings.Fields(c.rows)...)
			p.Point(at)
			if got := Home(p); got != c.want || p.Cursor() != c.want {
				t.Errorf("%s: from %d to %d, the cursor at %d, not %d", c.name, at, got, p.Cursor(), c.want)
			}
		}
	}
}

func TestOnWrittenOut(t *testing.T) { // P19.1
	wantDrawn(t, On, []drawnCase{
		{"not formatted, round the end", "AB CD", []int{1, 2, 3, 0}},
		{"one cell", "A", []int{0}},
		{"one attribute alone", "(", []int{0}},
		{"one skipped attribute alone", "{", []int{0}},
		{"an open attribute", "(A(B", []int{1, 3, 3, 1}},
		{"a protected attribute isn't skipped", "(A[B", []int{1, 3, 3, 1}},
		{"a numeric attribute isn't skipped", "(A<B", []int{1, 3, 3, 1}},
		{"a skipped attribute", "(A{B(C", []int{1, 5, 3, 5, 5, 1}},
		{"a skipped attribute that is modified", "(A}B(C", []int{1, 5, 3, 5, 5, 1}},
		{"a skipped attribute, and a tab round the end", "(AB{C", []int{1, 2, 1, 4, 1}},
		{"a skipped attribute at the first place", "{A(BC", []int{1, 3, 3, 4, 3}},
		{"over protected ones behind a skipped one", "(A{[B(C", []int{1, 6, 4, 4, 6, 6, 1}},
		{"a skipped one and no open one", "{A[B", []int{1, 3, 3, 0}},
		{"two attributes side by side: one more place, whatever stands there", "A({(B", []int{2, 4, 4, 4, 0}},
		{"open ones without cells", "A((({", []int{2, 3, 4, 0, 0}},
		{"at the last place, an open attribute behind it", "(ABC", []int{1, 2, 3, 1}},
		{"the attribute at the last place", "AB[C(", []int{1, 3, 3, 0, 0}},
		{"the skipped attribute at the last place", "A(B{", []int{2, 2, 2, 0}},
	})
}

// tabbed are the places to which tabs come, so many.
func tabbed(p *plane.Plane, many int) []int {
	var out []int
	for range many {
		out = append(out, Tab(p))
	}
	return out
}

func TestTabComesToEach(t *testing.T) { // P19.3: each open field's first place, in order, from wherever the cursor stands
	try := func(p *plane.Plane, froms []int) {
		entries := formOf(p).entries()
		for _, at := range froms {
			p.Point(at)
			if len(entries) == 0 {
				if got := tabbed(p, 2); !slices.Equal(got, []int{0, 0}) {
					t.Fatalf("tabs from %d come to %v, and there is no open field", at, got)
				}
				continue
			}
			first := slices.Index(entries, Tab(p))
			if first < 0 {
				t.Fatalf("a tab from %d comes to %d, no first place of an open field", at, p.Cursor())
			}
			// All others in order, the first one again, and once more.
			round := slices.Concat(entries[first+1:], entries, entries[:first+1])
			if got := tabbed(p, len(round)); !slices.Equal(got, round) {
				t.Fatalf("tabs from %d come to %v, not %v", at, got, round)
			}
		}
	}
	eachPlane(t, func(p *plane.Plane) {
		for at := range p.Len() {
			try(p, []int{at})
		}
	})
	largePlanes(t, func(r *rand.Rand, p *plane.Plane) {
		try(p, []int{0, p.Len() / 2, p.Len() - 1, r.Intn(p.Len())})
	})
}

func TestBackComesToEach(t *testing.T) { // P19.1: from first place to first place it goes as tabs do, the other way round
	eachPlane(t, func(p *plane.Plane) {
		entries := formOf(p).entries()
		if len(entries) == 0 {
			return
		}
		slices.Reverse(entries)
		p.Point(entries[len(entries)-1])
		for _, want := range slices.Concat(entries, entries) {
			if got := Back(p); got != want {
				t.Fatalf("Back comes to %d, not %d", got, want)
			}
		}
	})
}

func TestPlaneOfNoCells(t *testing.T) { // P1: a plane that was never made has no place but 0 to be told
	for _, p := range []*plane.Plane{nil, new(plane.Plane)} {
		for _, c := range calls() {
			if got := c.do(p); got != 0 || p.Cursor() != 0 || p.Len() != 0 {
				t.Errorf("%s = %d", c.name, got)
			}
		}
		for _, rows := range steps(2) {
			for _, cols := range steps(3) {
				if got := Move(p, rows, cols); got != 0 || p.Cursor() != 0 || p.Len() != 0 {
					t.Errorf("Move(%d, %d) = %d", rows, cols, got)
				}
			}
		}
	}
}
