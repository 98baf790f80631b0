package keyboard

import "greenscreen/api"

// kindNames are the names of keys by their kinds: Char has none, and an attention key's goes by its byte.
var kindNames = [...]string{
	Tab:        "TAB",
	BackTab:    "BACKTAB",
	Newline:    "NEWLINE",
	Home:       "HOME",
	Up:         "UP",
	Down:       "DOWN",
	Left:       "LEFT",
	Right:      "RIGHT",
	EraseEnd:   "ERASEEND",
	EraseInput: "ERASEINPUT",
	Delete:     "DELETE",
	Insert:     "INSERT",
	Dup:        "DUP",
	Mark:       "MARK",
	Reset:      "RESET",
}

// attention is an attention key's byte, and its name.
type attention struct {
	aid  byte
	name string
}

// aidNames are all attention keys.
var aidNames = [...]attention{
	{0x7D, "ENTER"}, {0x6D, "CLEAR"},
	{0x6C, "PA1"}, {0x6E, "PA2"}, {0x6B, "PA3"},
	{0xF1, "PF1"}, {0xF2, "PF2"}, {0xF3, "PF3"}, {0xF4, "PF4"}, {0xF5, "PF5"}, {0xF6, "PF6"},
	{0xF7, "PF7"}, {0xF8, "PF8"}, {0xF9, "PF9"}, {0x7A, "PF10"}, {0x7B, "PF11"}, {0x7C, "PF12"},
	{0xC1, "PF13"}, {0xC2, "PF14"}, {0xC3, "PF15"}, {0xC4, "PF16"}, {0xC5, "PF17"}, {0xC6, "PF18"},
	{0xC7, "PF19"}, {0xC8, "PF20"}, {0xC9, "PF21"}, {0x4A, "PF22"}, {0x4B, "PF23"}, {0x4C, "PF24"},
}

// Attention tells whether a byte is an attention key's.
func Attention(b byte) bool { return aidName(b) != "" }

// Short tells whether an attention key is sent alone.
func Short(b byte) bool {
	return b == api.AidClear || b == api.AidPA1 || b == api.AidPA2 || b == api.AidPA3
}

// Name is a key's name.
func Name(key Key) string {
	switch {
	case key.Kind == Aid:
		return aidName(key.Byte)
	case key.Kind >= 0 && key.Kind < len(kindNames):
		return kindNames[key.Kind]
	default:
		return ""
	}
}

// aidName is an attention key's name, or "" of a byte that is none's.
func aidName(b byte) string {
	for _, known := range aidNames {
		if known.aid == b {
			return known.name
		}
	}
	return ""
}

// Named is the key of a name.
func Named(name string) (Key, bool) {
	if name == "" {
		// Keys without a name stand in the table with that text.
		return Key{}, false
	}
	for kind, known := range kindNames {
		if known == name {
			return Key{Kind: kind}, true
		}
	}
	for _, known := range aidNames {
		if known.name == name {
			return Key{Kind: Aid, Byte: known.aid}, true
		}
	}
	return Key{}, false
}
