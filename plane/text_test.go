package plane

import (
	"bytes"
	"math"
	"math/rand"
	"slices"
	"strings"
	"testing"
	"unicode/utf8"

	"greenscreen/api"
	"greenscreen/code"
)

// pages are those that there are, and others, which count as 37.
var pages = []int{37, 500, 1047, 0, -1, 38, math.MaxInt, math.MinInt}

// seen is the sign that is seen of a cell, as the chapter says it.
func seen(page int, c api.Cell) rune {
	switch {
	case c.Start:
		return ' '
	case c.GE:
		return rune(0xE000 + int(c.Byte))
	case c.Byte < 0x40 || c.Byte == 0xFF:
		return ' '
	default:
		return code.Sign(page, c.Byte)
	}
}

// wanted is so many signs from a place on, one by one.
func wanted(p *Plane, page, from, n int) string {
	if from < 0 || from >= p.Len() {
		return ""
	}
	var out []rune
	for i := 0; i < n && i < p.Len(); i++ {
		out = append(out, seen(page, p.At((from+i)%p.Len())))
	}
	return string(out)
}

// lay lays signs of page 37 on a plane, from the first place on.
func lay(t *testing.T, p *Plane, text string) {
	t.Helper()
	b, e := code.Bytes(37, text)
	if e != api.OK {
		t.Fatalf("%q: %d", text, e)
	}
	for at, x := range b {
		p.Set(at, api.Cell{Byte: x})
	}
}

func TestTextOfEachCell(t *testing.T) { // P14.1: all bytes, as they are, with GE, with Start, with both; how they look is let go
	for _, page := range pages {
		for _, c := range []api.Cell{{}, {GE: true}, {Start: true}, {Start: true, GE: true}, {Light: 0xF1, Color: 0xF2}, {GE: true, Light: 0xFF}} {
			p := of(t, 16, 16)
			want := ""
			for b := range 256 {
				c.Byte = byte(b)
				p.Set(b, c)
				want += string(seen(page, c))
				if got := p.Text(page, b, 1); got != string(seen(page, c)) {
					t.Errorf("page %d: %v is %q", page, c, got)
				}
			}
			if got := p.Text(page, 0, 256); got != want {
				t.Errorf("page %d: %q, not %q", page, got, want)
			}
		}
	}
}

func TestTextWrittenOut(t *testing.T) { // P14.1
	p := of(t, 2, 4)
	for at, c := range []api.Cell{{Byte: 0xC8}, {Byte: 0x4A}, {Byte: 0xC1, Start: true}, {Byte: 0x81, GE: true}, {Byte: 0x3F}, {Byte: 0xFF}, {Byte: 0xC1, GE: true, Start: true}, {Byte: 0xF9}} {
		p.Set(at, c)
	}
	for _, c := range []struct {
		page, from, n int
		want          string
	}{
		{37, 0, 8, "H\u00A2 \uE081   9"},
		{500, 0, 8, "H[ \uE081   9"},
		{7, 0, 3, "H\u00A2 "},
		{37, 7, 2, "9H"},
		{37, 3, 8, "\uE081   9H\u00A2 "},
		{37, 3, 99, "\uE081   9H\u00A2 "},
		{37, 7, 0, ""},
		{37, 7, -1, ""},
		{37, 8, 1, ""},
		{37, -1, 2, ""},
	} {
		if got := p.Text(c.page, c.from, c.n); got != c.want {
			t.Errorf("Text(%d, %d, %d) = %q, not %q", c.page, c.from, c.n, got, c.want)
		}
	}
}

func TestTextFromEachPlace(t *testing.T) { // P14.1: every n, round the end too; n is held from 0 to Len
	r := rand.New(rand.NewSource(11))
	for _, s := range right[:5] {
		p := sized(t, s)
		for range 20 {
			strew(r, p)
			page := pages[r.Intn(len(pages))]
			was := p.Clone()
			for from := -2; from < p.Len()+2; from++ {
				for n := -2; n < 2*p.Len()+2; n++ {
					if got, want := p.Text(page, from, n), wanted(p, page, from, n); got != want {
						t.Fatalf("Text(%d, %d, %d) = %q, not %q", page, from, n, got, want)
					}
				}
				for _, n := range []int{math.MinInt, math.MinInt32, math.MaxInt32, math.MaxInt - 1, math.MaxInt} {
					if got, want := p.Text(page, from, n), wanted(p, page, from, n); got != want {
						t.Fatalf("Text(%d, %d, %d) = %q, not %q", page, from, n, got, want)
					}
				}
			}
			if !Same(p, was) {
				t.Fatal("something was turned")
			}
		}
	}
}

func TestTextOfLargePlanes(t *testing.T) { // P14.1
	r := rand.New(rand.NewSource(12))
	for _, s := range right {
		p := sized(t, s)
		strew(r, p)
		for _, from := range []int{0, 1, p.Len() / 2, p.Len() - 1} {
			for _, n := range []int{0, 1, s.Cols, p.Len() - 1, p.Len(), p.Len() + 1} {
				if got, want := p.Text(1047, from, n), wanted(p, 1047, from, n); got != want {
					t.Fatalf("%v: Text(%d, %d) = %q, not %q", s, from, n, got, want)
				}
			}
		}
		for _, from := range noPlaces(p.Len()) {
			if got := p.Text(37, from, 1); got != wanted(p, 37, from, 1) {
				t.Errorf("%v: Text from %d on = %q", s, from, got)
			}
		}
	}
}

func TestRows(t *testing.T) { // P14.3: one behind the other they are the text of all
	r := rand.New(rand.NewSource(13))
	for _, s := range right {
		p := sized(t, s)
		for _, page := range pages {
			rows := p.Rows(page)
			if len(rows) != s.Rows || strings.Join(rows, "") != wanted(p, page, 0, p.Len()) || strings.Join(rows, "") != p.Text(page, 0, p.Len()) {
				t.Fatalf("%v: %q", s, rows)
			}
			for i, row := range rows {
				if utf8.RuneCountInString(row) != s.Cols || row != wanted(p, page, i*s.Cols, s.Cols) {
					t.Fatalf("row %d of %v: %q", i, s, row)
				}
			}
			strew(r, p)
		}
	}
}

func TestRowsMemory(t *testing.T) { // P2: each answer is new memory
	p := of(t, 2, 3)
	first := p.Rows(37)
	first[0] = "x"
	clear(first[:cap(first)])
	if got := p.Rows(37); !slices.Equal(got, []string{"   ", "   "}) {
		t.Errorf("%q", got)
	}
}

func TestFindWrittenOut(t *testing.T) { // P14.1 and P14.3
	p := of(t, 2, 5)
	lay(t, p, "abcab\u00E9 aab")
	p.Set(6, api.Cell{Byte: 0xE9, GE: true})
	for _, c := range []struct {
		text string
		want int
	}{
		{"", 0},
		{"a", 0}, {"b", 1}, {"c", 2}, {"\u00E9", 5}, {"\uE0E9", 6},
		// Twice, or more often: the first one.
		{"ab", 0}, {"abc", 0}, {"ca", 2}, {"aa", 7}, {"aab", 7},
		{"b\u00E9\uE0E9a", 4},
		// Round the end.
		{"ba", 9}, {"aba", 8}, {"aababcab", 7}, {"babcab\u00E9\uE0E9aa", 9},
		// As many signs as there are cells.
		{"abcab\u00E9\uE0E9aab", 0}, {"cab\u00E9\uE0E9aabab", 2}, {"abcab\u00E9\uE0E9aaa", -1},
		// One more, which would go round.
		{"abcab\u00E9\uE0E9aaba", -1}, {"\u00E9\uE0E9aababcab\u00E9", -1}, {strings.Repeat("a", 100000), -1},
		// What isn't there.
		{"d", -1}, {"abd", -1}, {"ac", -1}, {"aaa", -1}, {"\u00E8", -1}, {"\uE0E8", -1}, {"A", -1}, {" ", -1}, {"\uFFFD", -1}, {"\U0001F600", -1}, {"\x00", -1},
		// Bytes that are no text's, and pieces of signs that are there.
		{"\xC3", -1}, {"\xA9", -1}, {"b\xC3", -1}, {"\xA9\xEE\x83\xA9", -1}, {"\x83\xA9a", -1}, {"ab\xFF", -1}, {"\xE9", -1}, {"\xEE\x83", -1},
	} {
		if got := p.Find(37, c.text); got != c.want {
			t.Errorf("Find(%q) = %d, not %d", c.text, got, c.want)
		}
	}
}

func TestFindOnPages(t *testing.T) { // P14.1: signs are those of the page
	p := of(t, 1, 3)
	p.Set(1, api.Cell{Byte: 0x4A})
	for _, page := range pages {
		cent, bracket := 1, -1
		if page == 500 {
			cent, bracket = -1, 1
		}
		if a, b := p.Find(page, "\u00A2"), p.Find(page, "["); a != cent || b != bracket {
			t.Errorf("page %d: %d %d", page, a, b)
		}
	}
	// Start and bytes that are no sign are blanks; so is all of a new plane.
	p.Set(0, api.Cell{Byte: 0xC1, Start: true})
	p.Set(2, api.Cell{Byte: 0x3F})
	if a, b, c := p.Find(37, "  "), p.Find(37, " \u00A2 "), p.Find(37, "A"); a != 2 || b != 0 || c != -1 {
		t.Errorf("%d %d %d", a, b, c)
	}
	p.Clear()
	if a, b := p.Find(37, "   "), p.Find(37, "    "); a != 0 || b != -1 {
		t.Errorf("%d %d", a, b)
	}
}

// wantedPlace is the first place from which on a text stands, looked for place by place.
func wantedPlace(p *Plane, page int, text string) int {
	for at := range p.Len() {
		if n := utf8.RuneCountInString(text); n <= p.Len() && wanted(p, page, at, n) == text {
			return at
		}
	}
	return -1
}

func TestFound(t *testing.T) { // P14.3: what is found stands there, and nothing ahead of it
	r := rand.New(rand.NewSource(14))
	few := []api.Cell{{Byte: 0x81}, {Byte: 0x82}, {Byte: 0x51}, {Byte: 0x81, GE: true}, {Byte: 0x81, Start: true}}
	found := 0
	for range 3000 {
		p := sized(t, right[r.Intn(5)])
		some := few[:1+r.Intn(len(few))]
		for at := range p.Len() {
			p.Set(at, some[r.Intn(len(some))])
		}
		was := p.Clone()
		for range 20 {
			var text []rune
			for range 1 + r.Intn(p.Len()+1) {
				text = append(text, seen(37, some[r.Intn(len(some))]))
			}
			got, want := p.Find(37, string(text)), wantedPlace(p, 37, string(text))
			if got != want {
				t.Fatalf("%q of %q: %d, not %d", string(text), p.Text(37, 0, p.Len()), got, want)
			}
			if got >= 0 {
				found++
			}
		}
		// What stands from a place on is found there, or ahead of it.
		for at := range p.Len() {
			for n := 1; n <= p.Len(); n++ {
				text := p.Text(37, at, n)
				if got := p.Find(37, text); got < 0 || got > at || p.Text(37, got, n) != text {
					t.Fatalf("%q of %q: %d", text, p.Text(37, 0, p.Len()), got)
				}
			}
		}
		if !Same(p, was) {
			t.Fatal("something was turned")
		}
	}
	if found < 10000 {
		t.Fatalf("%d were found", found)
	}
}

func TestFindOfLargePlanes(t *testing.T) { // P14.3
	for _, s := range right[7:] {
		p := sized(t, s)
		last := p.Len() - 1
		p.Set(last, api.Cell{Byte: 0x81, GE: true})
		p.Set(1, api.Cell{Byte: 0x82})
		for _, c := range []struct {
			text string
			want int
		}{
			{"\uE081", last}, {"\uE081 b", last}, {"b", 1}, {" \uE081", last - 1}, {"b ", 1},
			{p.Text(37, 0, last+1), 0}, {p.Text(37, last, last+1), last}, {p.Text(37, last, last+1) + "\uE081", -1},
			{strings.Repeat(" ", last-2), 2}, {strings.Repeat(" ", last-1), -1},
		} {
			if got := p.Find(37, c.text); got != c.want {
				t.Errorf("%v: %q at %d, not %d", s, c.text, got, c.want)
			}
		}
	}
}

func TestFindOfBytes(t *testing.T) { // P14.1: rows of bytes of whatever sort, never a piece of a sign
	r := rand.New(rand.NewSource(15))
	p := of(t, 2, 3)
	for at, b := range []byte{0x44, 0x51, 0x81, 0x44, 0xC3, 0x45} {
		p.Set(at, api.Cell{Byte: b, GE: at == 4})
	}
	of := []byte(p.Text(37, 0, 6) + "a\xFF")
	for range 100000 {
		text := bytes.Repeat([]byte{0}, 1+r.Intn(5))
		for i := range text {
			text[i] = of[r.Intn(len(of))]
		}
		if got, want := p.Find(37, string(text)), wantedPlace(p, 37, string(text)); got != want {
			t.Fatalf("%q: %d, not %d", text, got, want)
		}
	}
}
