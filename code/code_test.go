package code

import (
	"bytes"
	"math"
	"strconv"
	"strings"
	"testing"
	"unicode/utf8"

	"greenscreen/api"
)

// list37 is the list of the document's chapter 1, as it stands there.
const list37 = `
00 01 02 03 9C 09 86 7F 97 8D 8E 0B 0C 0D 0E 0F
10 11 12 13 9D 85 08 87 18 19 92 8F 1C 1D 1E 1F
80 81 82 83 84 0A 17 1B 88 89 8A 8B 8C 05 06 07
90 91 16 93 94 95 96 04 98 99 9A 9B 14 15 9E 1A
20 A0 E2 E4 E0 E1 E3 E5 E7 F1 A2 2E 3C 28 2B 7C
26 E9 EA EB E8 ED EE EF EC DF 21 24 2A 29 3B AC
2D 2F C2 C4 C0 C1 C3 C5 C7 D1 A6 2C 25 5F 3E 3F
F8 C9 CA CB C8 CD CE CF CC 60 3A 23 40 27 3D 22
D8 61 62 63 64 65 66 67 68 69 AB BB F0 FD FE B1
B0 6A 6B 6C 6D 6E 6F 70 71 72 AA BA E6 B8 C6 A4
B5 7E 73 74 75 76 77 78 79 7A A1 BF D0 DD DE AE
5E A3 A5 B7 A9 A7 B6 BC BD BE 5B 5D AF A8 B4 D7
7B 41 42 43 44 45 46 47 48 49 AD F4 F6 F2 F3 F5
7D 4A 4B 4C 4D 4E 4F 50 51 52 B9 FB FC F9 FA FF
5C F7 53 54 55 56 57 58 59 5A B2 D4 D6 D2 D3 D5
30 31 32 33 34 35 36 37 38 39 B3 DB DC D9 DA 9F
`

// named is where a page is another one than page 37, as the chapter names it.
func named(page int) map[byte]rune {
	switch page {
	case 500:
		return map[byte]rune{0x4A: 0x5B, 0x4F: 0x21, 0x5A: 0x5D, 0x5F: 0x5E, 0xB0: 0xA2, 0xBA: 0xAC, 0xBB: 0x7C}
	case 1047:
		return map[byte]rune{0x5F: 0x5E, 0xAD: 0x5B, 0xB0: 0xAC, 0xBA: 0xDD, 0xBB: 0xA8, 0xBD: 0x5D}
	}
	return nil
}

// pages are those that the chapter names, and others, which count as 37.
var pages = []int{37, 500, 1047, 0, -1, 36, 38, 501, 1046, 1048, -500, math.MaxInt, math.MinInt}

// wanted is what a page is to be, taken from the list and not from the program.
func wanted(t *testing.T, page int) [256]rune {
	t.Helper()
	words := strings.Fields(list37)
	if len(words) != 256 {
		t.Fatalf("the list has %d signs", len(words))
	}
	var out [256]rune
	for i, w := range words {
		n, err := strconv.ParseUint(w, 16, 8)
		if err != nil {
			t.Fatal(err)
		}
		out[i] = rune(n)
	}
	for b, r := range named(page) {
		out[b] = r
	}
	return out
}

func TestTableAndSign(t *testing.T) { // P1.1
	for _, page := range pages {
		want := wanted(t, page)
		if got := Table(page); got != want {
			t.Errorf("Table(%d) = %x", page, got)
		}
		for b := range 256 {
			if got := Sign(page, byte(b)); got != want[b] {
				t.Errorf("Sign(%d, %02X) = %x, not %x", page, b, got, want[b])
			}
		}
	}
}

func TestExamples(t *testing.T) { // P1.1, and example 1 of the whole
	if Sign(37, 0xC1) != 'A' || Sign(37, 0x4A) != 0xA2 || Sign(500, 0x4A) != '[' {
		t.Error("the chapter's examples")
	}
}

func TestUnlikeSigns(t *testing.T) { // P1.2
	for _, page := range pages {
		seen := map[rune]bool{}
		for b, r := range Table(page) {
			if r < 0 || r > 0xFF || seen[r] {
				t.Errorf("page %d: sign %x of %02X", page, r, b)
			}
			seen[r] = true
			if back, ok := Byte(page, r); back != byte(b) || !ok {
				t.Errorf("Byte(%d, %x) = %02X %t, not %02X", page, r, back, ok, b)
			}
		}
	}
}

func TestByteOfNoSign(t *testing.T) { // P1.1: no sign lies beyond FF
	for _, page := range pages {
		for _, r := range []rune{-1, -0x41, 0x100, 0x141, 0x20AC, 0xE081, utf8.RuneError, utf8.MaxRune, utf8.MaxRune + 1, math.MaxInt32, math.MinInt32} {
			if b, ok := Byte(page, r); b != 0 || ok {
				t.Errorf("Byte(%d, %x) = %02X %t", page, r, b, ok)
			}
		}
	}
}

func TestPagesDifferWhereNamed(t *testing.T) { // P1.3
	plain := Table(37)
	for _, page := range pages {
		changed := named(page)
		for b, r := range Table(page) {
			if _, is := changed[byte(b)]; (r != plain[b]) != is {
				t.Errorf("page %d, byte %02X: %x, on page 37 %x", page, b, r, plain[b])
			}
		}
	}
}

func TestText(t *testing.T) { // P1.1
	for _, page := range pages {
		want := wanted(t, page)
		for b := range 256 {
			r := want[b]
			if b < 0x40 || b == 0xFF {
				r = ' '
			}
			if got := Text(page, []byte{byte(b)}); got != string(r) {
				t.Errorf("Text(%d, %02X) = %q, not %q", page, b, got, string(r))
			}
		}
		if Text(page, nil) != "" || Text(page, []byte{}) != "" {
			t.Errorf("page %d: a text of nothing", page)
		}
	}
	if got := Text(37, []byte{0xC8, 0x85, 0x00, 0x4A, 0x3F, 0xF1, 0xFF, 0x40}); got != "He \u00A2 1  " {
		t.Errorf("%q", got)
	}
	if got := Text(37, bytes.Repeat([]byte{0xC1, 0x4A}, 5000)); got != strings.Repeat("A\u00A2", 5000) {
		t.Errorf("a long text has %d bytes", len(got))
	}
}

func TestBytes(t *testing.T) { // P1.1
	for _, c := range []struct {
		page int
		s    string
		want string
	}{
		{37, "", ""},
		{37, "Hello 7", "\xC8\x85\x93\x93\x96\x40\xF7"},
		{37, "\u00A2\u00AC|!", "\x4A\x5F\x4F\x5A"},
		{500, "[]!^|\u00A2\u00AC", "\x4A\x5A\x4F\x5F\xBB\xB0\xBA"},
		{1047, "[]^\u00AC\u00DD\u00A8", "\xAD\xBD\x5F\xB0\xBA\xBB"},
		{12, "[]^", "\xBA\xBB\xB0"},
		{37, "\u00A0", "\x41"},
	} {
		if b, e := Bytes(c.page, c.s); string(b) != c.want || e != api.OK {
			t.Errorf("Bytes(%d, %q) = %x %d, not %x", c.page, c.s, b, e, c.want)
		}
	}
}

func TestBytesThatAreNone(t *testing.T) { // P1.1: such a sign is refused wherever it stands
	signs := []string{"\u0100", "\u20AC", "\uE081", "\uFFFD", "\U0001F600", "\x80", "\xC2", "\xED\xA0\x80", "\xC1\x81", "\xFF"}
	for _, page := range pages {
		bad := append([]string(nil), signs...)
		for b, r := range wanted(t, page) {
			if b < 0x40 || b == 0xFF {
				bad = append(bad, string(r))
			}
		}
		for _, s := range bad {
			for _, text := range []string{s, "A" + s, s + "A", "A " + s + "b"} {
				if b, e := Bytes(page, text); len(b) != 0 || e != api.ErrForm {
					t.Errorf("Bytes(%d, %q) = %x %d", page, text, b, e)
				}
			}
		}
	}
}

func TestTextAndBack(t *testing.T) { // P1.3, P5
	var graphic []byte
	for b := 0x40; b <= 0xFE; b++ {
		graphic = append(graphic, byte(b))
	}
	graphic = append(graphic, 0xFE, 0x40, 0x40)
	for _, page := range pages {
		for n := range len(graphic) + 1 {
			if b, e := Bytes(page, Text(page, graphic[n:])); !bytes.Equal(b, graphic[n:]) || e != api.OK {
				t.Errorf("page %d, from %d on: %x %d", page, n, b, e)
			}
		}
	}
}

func TestUpper(t *testing.T) { // P1.1
	for _, page := range pages {
		want := wanted(t, page)
		for b := range 256 {
			sign := want[b]
			if sign >= 'a' && sign <= 'z' {
				sign = sign - 'a' + 'A'
			}
			if got := Upper(page, byte(b)); want[got] != sign {
				t.Errorf("Upper(%d, %02X) = %02X", page, b, got)
			}
		}
	}
}

func TestDigitAndGraphic(t *testing.T) { // P1.1
	for b := range 256 {
		if got := Digit(byte(b)); got != (b >= 0xF0 && b <= 0xF9) {
			t.Errorf("Digit(%02X) = %t", b, got)
		}
		if got := Graphic(byte(b)); got != (b >= 0x40 && b <= 0xFE) {
			t.Errorf("Graphic(%02X) = %t", b, got)
		}
	}
}

func TestSpecial(t *testing.T) { // P1.1
	for b := range 256 {
		if got := Special(byte(b)); got != rune(0xE000+b) {
			t.Errorf("Special(%02X) = %x", b, got)
		}
	}
}

func TestNothingIsKeptOrShared(t *testing.T) { // P2, and the rules that hold everywhere
	room := []byte{0xC1, 0x00, 0x82, 0xFF, 0xD1, 0xD2}
	want := append([]byte(nil), room...)
	text := Text(37, room[:4])
	if !bytes.Equal(room, want) {
		t.Errorf("what was handed in became %x", room)
	}
	clear(room)
	if text != "A b " {
		t.Errorf("the text became %q", text)
	}
	first, _ := Bytes(37, "AB")
	clear(first[:cap(first)])
	if second, _ := Bytes(37, "AB"); string(second) != "\xC1\xC2" {
		t.Errorf("%x", second)
	}
	signs := Table(37)
	signs[0xC1] = 0
	if Sign(37, 0xC1) != 'A' || Table(37)[0xC1] != 'A' {
		t.Error("a table that was written over")
	}
}
