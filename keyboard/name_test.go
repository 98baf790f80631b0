package keyboard

import (
	"math"
	"strings"
	"testing"

	"greenscreen/api"
)

// names are all keys that have one, written out.
var names = map[string]Key{
	"TAB": {Kind: 2}, "BACKTAB": {Kind: 3}, "NEWLINE": {Kind: 4}, "HOME": {Kind: 5}, "UP": {Kind: 6}, "DOWN": {Kind: 7}, "LEFT": {Kind: 8}, "RIGHT": {Kind: 9},
	"ERASEEND": {Kind: 10}, "ERASEINPUT": {Kind: 11}, "DELETE": {Kind: 12}, "INSERT": {Kind: 13}, "DUP": {Kind: 14}, "MARK": {Kind: 15}, "RESET": {Kind: 16},
	"ENTER": {17, 0x7D}, "CLEAR": {17, 0x6D}, "PA1": {17, 0x6C}, "PA2": {17, 0x6E}, "PA3": {17, 0x6B},
	"PF1": {17, 0xF1}, "PF2": {17, 0xF2}, "PF3": {17, 0xF3}, "PF4": {17, 0xF4}, "PF5": {17, 0xF5}, "PF6": {17, 0xF6}, "PF7": {17, 0xF7}, "PF8": {17, 0xF8}, "PF9": {17, 0xF9},
	"PF10": {17, 0x7A}, "PF11": {17, 0x7B}, "PF12": {17, 0x7C},
	"PF13": {17, 0xC1}, "PF14": {17, 0xC2}, "PF15": {17, 0xC3}, "PF16": {17, 0xC4}, "PF17": {17, 0xC5}, "PF18": {17, 0xC6}, "PF19": {17, 0xC7}, "PF20": {17, 0xC8}, "PF21": {17, 0xC9},
	"PF22": {17, 0x4A}, "PF23": {17, 0x4B}, "PF24": {17, 0x4C},
}

func TestNames(t *testing.T) { // P22.3: each name is that of the key that it names
	if len(names) != 44 {
		t.Fatalf("%d names", len(names))
	}
	for name, key := range names {
		if got := Name(key); got != name {
			t.Errorf("%v is %q, not %q", key, got, name)
		}
		if got, ok := Named(name); got != key || !ok {
			t.Errorf("%q is %v, %v, not %v", name, got, ok, key)
		}
	}
}

func TestNameOfEachKey(t *testing.T) { // P22.1 and P22.3: of each kind and byte, and of kinds that are none
	kinds := append([]int{math.MinInt, math.MaxInt, 1 << 32, 1<<32 + 2, -1 << 32, 256, 258}, kindsOfNone...)
	for kind := -40; kind <= 60; kind++ {
		kinds = append(kinds, kind)
	}
	for _, kind := range kinds {
		for b := range 256 {
			key := Key{kind, byte(b)}
			plain := key
			if kind != 17 {
				// The byte belongs to Char and Aid alone.
				plain.Byte = 0
			}
			want := ""
			for name, named := range names {
				if named == plain {
					want = name
				}
			}
			got := Name(key)
			if got != want {
				t.Fatalf("%v is %q, not %q", key, got, want)
			}
			if back, ok := Named(got); ok != (want != "") || ok && back != plain {
				t.Fatalf("%v is %q, which is %v, %v", key, got, back, ok)
			}
		}
	}
}

func TestNameOfNone(t *testing.T) { // P22.1: texts that name no key
	texts := []string{"", " ", "CHAR", "AID", "NONE", "FIELD", "PA", "PA0", "PA4", "PA10", "PF", "PF0", "PF00", "PF01", "PF25", "PF30", "PF100", "PF1 ", " PF1", "PF-1", "PF+1", "P", "PFX", "ENTERS", "ENTE", "EnTER", "Tab", "\x00", "\xff", "7D", "BACK TAB", "BACK", "ERASE", "EraseEnd", "ERASE_END", "DUP\x00", "ＴＡＢ", "TAB\n", strings.Repeat("TAB", 1000), strings.Repeat("A", 1<<20)}
	for name := range names {
		lower := strings.ToLower(name)
		texts = append(texts, lower, lower[:1]+name[1:], name[:len(name)-1]+strings.ToLower(name[len(name)-1:])+"x", name+" ", " "+name, name+name, name+"\x00")
		if !strings.HasPrefix(name, "PF") || len(name) < 4 {
			texts = append(texts, name[:len(name)-1])
		}
	}
	for _, text := range texts {
		if key, ok := Named(text); key != (Key{}) || ok {
			t.Errorf("%q is %v, %v", text, key, ok)
		}
	}
}

func TestAttention(t *testing.T) { // P22.1: each of 256 bytes
	many := 0
	for b := range 256 {
		want := isAid(byte(b))
		if got := Attention(byte(b)); got != want {
			t.Errorf("%02X: %v", b, got)
		}
		if got := Name(Key{Aid, byte(b)}) != ""; got != want {
			t.Errorf("%02X has a name: %v", b, got)
		}
		if want {
			many++
		}
	}
	if many != 29 {
		t.Errorf("%d", many)
	}
	for _, b := range []byte{api.AidNone, api.AidField, 0, 0xFF, 0xF0, 0xFA, 0xC0, 0xCA, 0x49, 0x4D, 0x79, 0x7E, 0x6F} {
		if Attention(b) || Short(b) {
			t.Errorf("%02X", b)
		}
	}
}

func TestShort(t *testing.T) { // P22.1: CLEAR and PA1 to PA3, of each of 256 bytes
	for b := range 256 {
		want := b == 0x6D || b == 0x6C || b == 0x6E || b == 0x6B
		if got := Short(byte(b)); got != want {
			t.Errorf("%02X: %v", b, got)
		}
	}
}
