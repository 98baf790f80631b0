package addr

import (
	"iter"
	"math"
	"slices"
	"testing"

	"greenscreen/api"
	"greenscreen/code"
)

// numbers are edges of all numbers.
var numbers = []int{math.MinInt, math.MinInt + 1, math.MinInt32, -4097, -64, -1, 0, 1, 63, 64, 4095, 4096, 16384, math.MaxInt32, 1 << 32, math.MaxInt - 1, math.MaxInt}

// right are sizes, and how many cells they have; wrong ones have none.
var right = map[api.Size]int{
	{Rows: 1, Cols: 1}:    1,
	{Rows: 1, Cols: 132}:  132,
	{Rows: 43, Cols: 1}:   43,
	{Rows: 2, Cols: 3}:    6,
	{Rows: 12, Cols: 80}:  960,
	{Rows: 24, Cols: 80}:  1920,
	{Rows: 32, Cols: 80}:  2560,
	{Rows: 43, Cols: 80}:  3440,
	{Rows: 27, Cols: 132}: 3564,
	{Rows: 31, Cols: 132}: 4092,
	{Rows: 32, Cols: 128}: 4096,
	{Rows: 43, Cols: 95}:  4085,
}

var wrong = []api.Size{
	{}, {Rows: 0, Cols: 80}, {Rows: 24, Cols: 0}, {Rows: -1, Cols: 80}, {Rows: 24, Cols: -1}, {Rows: -2, Cols: -3},
	{Rows: 44, Cols: 1}, {Rows: 1, Cols: 133}, {Rows: 43, Cols: 132}, {Rows: 43, Cols: 96}, {Rows: 32, Cols: 129}, {Rows: 33, Cols: 128},
	{Rows: 80, Cols: 24}, {Rows: math.MaxInt, Cols: math.MaxInt}, {Rows: math.MinInt, Cols: math.MinInt},
	{Rows: 1 << 32, Cols: 1 << 32}, {Rows: math.MinInt, Cols: -1}, {Rows: math.MaxInt, Cols: 2}, {Rows: 2, Cols: math.MaxInt},
}

func TestDigitAndValue(t *testing.T) { // P2.1
	// The digits from 0 on, written out.
	want := []byte{
		0x40, 0xC1, 0xC2, 0xC3, 0xC4, 0xC5, 0xC6, 0xC7, 0xC8, 0xC9, 0x4A, 0x4B, 0x4C, 0x4D, 0x4E, 0x4F,
		0x50, 0xD1, 0xD2, 0xD3, 0xD4, 0xD5, 0xD6, 0xD7, 0xD8, 0xD9, 0x5A, 0x5B, 0x5C, 0x5D, 0x5E, 0x5F,
		0x60, 0x61, 0xE2, 0xE3, 0xE4, 0xE5, 0xE6, 0xE7, 0xE8, 0xE9, 0x6A, 0x6B, 0x6C, 0x6D, 0x6E, 0x6F,
		0xF0, 0xF1, 0xF2, 0xF3, 0xF4, 0xF5, 0xF6, 0xF7, 0xF8, 0xF9, 0x7A, 0x7B, 0x7C, 0x7D, 0x7E, 0x7F,
	}
	for v := -256; v < 320; v++ {
		if got := Digit(v); got != want[v&63] {
			t.Errorf("Digit(%d) = %02X, not %02X", v, got, want[v&63])
		}
	}
	for _, v := range numbers {
		if got := Digit(v); got != want[v&63] {
			t.Errorf("Digit(%d) = %02X, not %02X", v, got, want[v&63])
		}
	}
	for b := range 256 {
		if got := Value(byte(b)); got != b%64 {
			t.Errorf("Value(%02X) = %d", b, got)
		}
	}
}

func TestEncode(t *testing.T) { // P2.1
	for _, c := range []struct {
		at, cells int
		want      [2]byte
		e         api.Errno
	}{
		{0, 1, [2]byte{0x40, 0x40}, api.OK},
		{3, 1920, [2]byte{0x40, 0xC3}, api.OK},
		{80, 1920, [2]byte{0xC1, 0x50}, api.OK},
		{1919, 1920, [2]byte{0x5D, 0x7F}, api.OK},
		{33*64 + 48, 4096, [2]byte{0x61, 0xF0}, api.OK},
		{4095, 4096, [2]byte{0x7F, 0x7F}, api.OK},
		{0, 4097, [2]byte{0, 0}, api.OK},
		{4096, 4097, [2]byte{0x10, 0x00}, api.OK},
		{255, 4097, [2]byte{0x00, 0xFF}, api.OK},
		{256, 4097, [2]byte{0x01, 0x00}, api.OK},
		{16383, 16384, [2]byte{0x3F, 0xFF}, api.OK},
		{1, 1, [2]byte{}, api.ErrArg},
		{-1, 1920, [2]byte{}, api.ErrArg},
		{1920, 1920, [2]byte{}, api.ErrArg},
		{4096, 4096, [2]byte{}, api.ErrArg},
		{16384, 16384, [2]byte{}, api.ErrArg},
		{0, 0, [2]byte{}, api.ErrArg},
		{0, -1, [2]byte{}, api.ErrArg},
		{-2, -1, [2]byte{}, api.ErrArg},
		{0, 16385, [2]byte{}, api.ErrArg},
		{3, math.MaxInt, [2]byte{}, api.ErrArg},
		{math.MaxInt, 1920, [2]byte{}, api.ErrArg},
		{math.MinInt, 1920, [2]byte{}, api.ErrArg},
		{0, math.MinInt, [2]byte{}, api.ErrArg},
	} {
		if got, e := Encode(c.at, c.cells); got != c.want || e != c.e {
			t.Errorf("Encode(%d, %d) = %x %d, not %x %d", c.at, c.cells, got, e, c.want, c.e)
		}
	}
}

func TestDecode(t *testing.T) { // P2.1
	for a := range 256 {
		for b := range 256 {
			want := a%64*64 + b%64
			if a < 0x40 {
				want = a*256 + b
			}
			if got := Decode(byte(a), byte(b)); got != want {
				t.Fatalf("Decode(%02X, %02X) = %d, not %d", a, b, got, want)
			}
		}
	}
}

func TestEncodedIsDecoded(t *testing.T) { // P2.2, P5
	for _, cells := range []int{1, 2, 63, 64, 65, 80, 1920, 3564, 4095, 4096, 4097, 8192, 16383, 16384} {
		for at := range cells {
			b, e := Encode(at, cells)
			if e != api.OK || Decode(b[0], b[1]) != at {
				t.Fatalf("place %d of %d: %x %d", at, cells, b, e)
			}
			if cells <= 4096 && (!code.Graphic(b[0]) || !code.Graphic(b[1])) {
				t.Fatalf("place %d of %d: %x isn't seen", at, cells, b)
			}
		}
	}
}

func TestCells(t *testing.T) { // P2.1
	for s, want := range right {
		if got := Cells(s); got != want {
			t.Errorf("Cells(%v) = %d, not %d", s, got, want)
		}
	}
	for _, s := range wrong {
		if got := Cells(s); got != 0 {
			t.Errorf("Cells(%v) = %d", s, got)
		}
	}
	for rows := -1; rows < 50; rows++ {
		for cols := -1; cols < 140; cols++ {
			want := rows * cols
			if rows < 1 || rows > 43 || cols < 1 || cols > 132 || want > 4096 {
				want = 0
			}
			if got := Cells(api.Size{Rows: rows, Cols: cols}); got != want {
				t.Errorf("Cells of %d and %d = %d", rows, cols, got)
			}
		}
	}
}

func TestAtAndSplit(t *testing.T) { // P2.1
	for s := range right {
		next := 0
		for row := range s.Rows {
			for col := range s.Cols {
				if at, ok := At(s, row, col); at != next || !ok {
					t.Fatalf("At(%v, %d, %d) = %d %t, not %d", s, row, col, at, ok, next)
				}
				if r, c, ok := Split(s, next); r != row || c != col || !ok {
					t.Fatalf("Split(%v, %d) = %d %d %t", s, next, r, c, ok)
				}
				next++
			}
		}
	}
}

func TestAtAndSplitOfNoPlace(t *testing.T) { // P2.1
	noPlace := func(s api.Size, row, col int) {
		t.Helper()
		if at, ok := At(s, row, col); at != 0 || ok {
			t.Errorf("At(%v, %d, %d) = %d %t", s, row, col, at, ok)
		}
	}
	noSplit := func(s api.Size, at int) {
		t.Helper()
		if row, col, ok := Split(s, at); row != 0 || col != 0 || ok {
			t.Errorf("Split(%v, %d) = %d %d %t", s, at, row, col, ok)
		}
	}
	for s, cells := range right {
		for _, n := range []int{math.MinInt, -1, math.MaxInt} {
			noPlace(s, n, 0)
			noPlace(s, 0, n)
			noPlace(s, n, n)
			noSplit(s, n)
		}
		noPlace(s, s.Rows, 0)
		noPlace(s, 0, s.Cols)
		noPlace(s, s.Rows-1, s.Cols)
		noSplit(s, cells)
	}
	for _, s := range wrong {
		for _, n := range numbers {
			noPlace(s, 0, n)
			noPlace(s, n, 0)
			noSplit(s, n)
		}
	}
}

func TestExamples(t *testing.T) { // P2.1, and example 2 of the whole
	if b, e := Encode(0, 1920); b != [2]byte{0x40, 0x40} || e != api.OK {
		t.Errorf("place 0: %x %d", b, e)
	}
	if b, e := Encode(1919, 1920); b != [2]byte{0x5D, 0x7F} || e != api.OK {
		t.Errorf("place 1919: %x %d", b, e)
	}
	if row, col, ok := Split(api.Size{Rows: 24, Cols: 80}, 1919); row != 23 || col != 79 || !ok {
		t.Errorf("place 1919: %d %d %t", row, col, ok)
	}
}

// remainder is from 0 on, for numbers below 0 as well.
func remainder(n, by int) int {
	n %= by
	if n < 0 {
		n += by
	}
	return n
}

func TestMove(t *testing.T) { // P2.1
	for s, cells := range right {
		for _, at := range append([]int{cells - 1, cells, cells + 1, -cells}, numbers...) {
			for _, by := range append([]int{cells - 1, cells, -cells, 1 - cells, 2 * cells}, numbers...) {
				want := remainder(remainder(at, cells)+remainder(by, cells), cells)
				if got := Move(s, at, by); got != want {
					t.Errorf("Move(%v, %d, %d) = %d, not %d", s, at, by, got, want)
				}
			}
		}
	}
	for _, s := range wrong {
		for _, n := range numbers {
			if got := Move(s, n, 1) + Move(s, 1, n); got != 0 {
				t.Errorf("Move of %v and %d: %d", s, n, got)
			}
		}
	}
}

func TestMoveGoesRound(t *testing.T) { // P2.1
	s := api.Size{Rows: 2, Cols: 3}
	for _, c := range [][3]int{{0, 0, 0}, {0, 1, 1}, {5, 1, 0}, {0, -1, 5}, {5, 6, 5}, {2, -6, 2}, {4, 13, 5}, {-1, 0, 5}, {6, 0, 0}, {13, -2, 5}, {-7, -7, 4}} {
		if got := Move(s, c[0], c[1]); got != c[2] {
			t.Errorf("Move(%d, %d) = %d, not %d", c[0], c[1], got, c[2])
		}
	}
}

func TestBetween(t *testing.T) { // P2.1
	s := api.Size{Rows: 2, Cols: 3}
	for _, c := range []struct {
		from, to int
		want     []int
	}{
		{0, 1, []int{0}},
		{1, 4, []int{1, 2, 3}},
		{4, 1, []int{4, 5, 0}},
		{5, 0, []int{5}},
		{0, 5, []int{0, 1, 2, 3, 4}},
		{0, 0, []int{0, 1, 2, 3, 4, 5}},
		{2, 2, []int{2, 3, 4, 5, 0, 1}},
		{5, 5, []int{5, 0, 1, 2, 3, 4}},
	} {
		places := Between(s, c.from, c.to)
		for range 2 { // gone over more than once, it tells the same
			if got := slices.Collect(places); !slices.Equal(got, c.want) {
				t.Errorf("Between(%d, %d) = %v, not %v", c.from, c.to, got, c.want)
			}
		}
	}
	if got := slices.Collect(Between(api.Size{Rows: 1, Cols: 1}, 0, 0)); !slices.Equal(got, []int{0}) {
		t.Errorf("of one cell: %v", got)
	}
}

func TestBetweenOfNoPlace(t *testing.T) { // P2.1
	none := func(places iter.Seq[int]) {
		t.Helper()
		for at := range places {
			t.Errorf("place %d", at)
			return
		}
	}
	for s, cells := range right {
		for _, n := range []int{math.MinInt, -cells, -1, cells, cells + 1, math.MaxInt} {
			none(Between(s, n, 0))
			none(Between(s, 0, n))
			none(Between(s, n, n))
		}
	}
	for _, s := range wrong {
		for _, n := range numbers {
			none(Between(s, n, n))
			none(Between(s, 0, n))
			none(Between(s, n, 1))
		}
	}
}

func TestBetweenStops(t *testing.T) { // P2.1: no more is told than is asked for
	s := api.Size{Rows: 2, Cols: 3}
	for most := 1; most <= 6; most++ {
		told := 0
		Between(s, 4, 4)(func(int) bool {
			told++
			return told < most
		})
		if told != most {
			t.Errorf("%d places were told, not %d", told, most)
		}
	}
}

func TestBetweenWithinItself(t *testing.T) { // P2.1: two that go over it at one time don't see each other
	places := Between(api.Size{Rows: 1, Cols: 4}, 3, 2)
	var got []int
	for a := range places {
		for b := range places {
			got = append(got, a*10+b)
		}
	}
	if want := []int{33, 30, 31, 3, 0, 1, 13, 10, 11}; !slices.Equal(got, want) {
		t.Errorf("%v, not %v", got, want)
	}
}

func TestBetweenTwoAndBack(t *testing.T) { // P2.3
	for _, s := range []api.Size{{Rows: 1, Cols: 1}, {Rows: 1, Cols: 2}, {Rows: 2, Cols: 3}, {Rows: 4, Cols: 5}, {Rows: 43, Cols: 1}} {
		cells := Cells(s)
		for from := range cells {
			for to := range cells {
				got := slices.Collect(Between(s, from, to))
				if from != to {
					got = slices.AppendSeq(got, Between(s, to, from))
				}
				for i, at := range got {
					if at != (from+i)%cells {
						t.Fatalf("%v, %d and %d: %v", s, from, to, got)
					}
				}
				if len(got) != cells {
					t.Fatalf("%v, %d and %d: %d places, not %d", s, from, to, len(got), cells)
				}
			}
		}
	}
}
