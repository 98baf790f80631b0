// Package addr is layer 2: see shared/doc/02-addr.md.
package addr

import (
	"iter"

	"greenscreen/api"
)

// mostEncoded is how many cells there may be where a place is written: two bytes hold no more.
const mostEncoded = 16384

// Digit is the byte of six bits.
func Digit(v int) byte {
	low := byte(v & 63)
	rest := low % 16
	if rest >= 1 && rest <= 9 && low != 33 || low == 48 {
		return 0xC0 + low
	}
	return 0x40 + low
}

// Value is six bits of a byte.
func Value(b byte) int { return int(b & 63) }

// Encode is a place as two bytes.
func Encode(at, cells int) ([2]byte, api.Errno) {
	if cells > mostEncoded || !inside(at, cells) {
		return [2]byte{}, api.ErrArg
	}
	if cells <= api.MaxCells {
		return [2]byte{Digit(at / 64), Digit(at)}, api.OK
	}
	return [2]byte{byte(at / 256), byte(at % 256)}, api.OK
}

// Decode is two bytes as a place.
func Decode(a, b byte) int {
	if a>>6 == 0 {
		return Value(a)*256 + int(b)
	}
	return Value(a)*64 + Value(b)
}

// inside tells whether there is such a number, from 0 on, of so many.
func inside(at, many int) bool { return at >= 0 && at < many }

// Cells is how many cells a screen has.
func Cells(s api.Size) int {
	// Ahead of the product, so that it can't wrap round.
	if s.Rows < 1 || s.Rows > api.MaxRows || s.Cols < 1 || s.Cols > api.MaxCols {
		return 0
	}
	if s.Rows*s.Cols > api.MaxCells {
		return 0
	}
	return s.Rows * s.Cols
}

// At is the place of a row and a column.
func At(s api.Size, row, col int) (int, bool) {
	if Cells(s) == 0 || !inside(row, s.Rows) || !inside(col, s.Cols) {
		return 0, false
	}
	return row*s.Cols + col, true
}

// Split is the row and the column of a place.
func Split(s api.Size, at int) (row, col int, ok bool) {
	if !inside(at, Cells(s)) {
		return 0, 0, false
	}
	return at / s.Cols, at % s.Cols, true
}

// Move is a place that is so many further on.
func Move(s api.Size, at, by int) int {
	cells := Cells(s)
	if cells == 0 {
		return 0
	}
	// Each is cut down on its own, so that the sum can't wrap round.
	return (at%cells + by%cells + 2*cells) % cells
}

// Between is the places from one on, up to another one.
func Between(s api.Size, from, to int) iter.Seq[int] {
	cells := Cells(s)
	return func(yield func(int) bool) {
		if !inside(from, cells) || !inside(to, cells) {
			return
		}
		at := from
		for yield(at) {
			at = Move(s, at, 1)
			if at == to {
				return
			}
		}
	}
}
