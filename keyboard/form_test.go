package keyboard

import (
	"fmt"
	"math"
	"math/rand"
	"strings"
	"testing"

	"greenscreen/api"
	"greenscreen/caret"
	"greenscreen/command"
	"greenscreen/lock"
	"greenscreen/plane"
	"greenscreen/screen"
	"greenscreen/typing"
	"greenscreen/wipe"
)

// form is a keyboard as the chapter has it, on a screen of its own. What a plane, or a screen, is turned to is the lower layers' affair, which have tests of their own.
type form struct {
	screen *screen.Screen
	state  int
	why    api.Errno
	turns  int
	insert bool
	last   byte
}

// formOf is what a keyboard of a screen is.
func formOf(k *Keyboard, s *screen.Screen) *form {
	l := k.Lock()
	return &form{s.Clone(), l.State(), l.Why(), l.Turns(), k.Inserting(), k.Last()}
}

// turn comes to a state of the lock.
func (f *form) turn(state int, why api.Errno) {
	f.state, f.why = state, why
	f.turns++
}

// press presses a key; the kinds stand as numbers here, as they are counted.
func (f *form) press(key Key) (bool, api.Errno) {
	if key.Kind == 16 {
		f.insert = false
		if f.state == lock.Wrong {
			f.turn(lock.Ready, api.OK)
		}
		return false, api.OK
	}
	if f.state != lock.Ready {
		return false, api.ErrLocked
	}
	p, e := f.screen.Plane(), api.OK
	switch key.Kind {
	case 1:
		e = typing.Put(p, key.Byte, f.insert)
	case 2:
		caret.Tab(p)
	case 3:
		caret.Back(p)
	case 4:
		caret.Newline(p)
	case 5:
		caret.Home(p)
	case 6:
		caret.Move(p, -1, 0)
	case 7:
		caret.Move(p, 1, 0)
	case 8:
		caret.Move(p, 0, -1)
	case 9:
		caret.Move(p, 0, 1)
	case 10:
		e = typing.End(p)
	case 11:
		wipe.Open(p)
	case 12:
		e = typing.Delete(p)
	case 13:
		f.insert = !f.insert
	case 14:
		e = typing.Dup(p, f.insert)
	case 15:
		e = typing.Mark(p, f.insert)
	case 17:
		return f.send(key.Byte)
	default:
		return false, api.ErrArg
	}
	if e != api.OK {
		f.turn(lock.Wrong, e)
	}
	return false, e
}

// send presses an attention key on a keyboard that is Ready.
func (f *form) send(aid byte) (bool, api.Errno) {
	if !isAid(aid) {
		return false, api.ErrArg
	}
	f.turn(lock.Sent, api.OK)
	f.insert, f.last = false, aid
	if aid == 0x6D {
		f.screen.Clear()
	}
	return true, api.OK
}

// host takes what came of a command.
func (f *form) host(r screen.Result) {
	if !r.Restore {
		return
	}
	if f.state == lock.Sent || f.state == lock.Wrong {
		f.turn(lock.Ready, api.OK)
	}
	f.insert, f.last = false, 0x60
}

// aids are the attention keys in the chapter's order: ENTER, CLEAR, PA1 to PA3, PF1 to PF24.
const aids = "\x7D\x6D\x6C\x6E\x6B\xF1\xF2\xF3\xF4\xF5\xF6\xF7\xF8\xF9\x7A\x7B\x7C\xC1\xC2\xC3\xC4\xC5\xC6\xC7\xC8\xC9\x4A\x4B\x4C"

// isAid tells whether a byte is one of them.
func isAid(b byte) bool { return strings.IndexByte(aids, b) >= 0 }

// wantForm tells what of a keyboard of a screen isn't as said; that it is looked at turns nothing.
func wantForm(t *testing.T, k *Keyboard, s *screen.Screen, f *form, what string) {
	t.Helper()
	for range 2 {
		l := k.Lock()
		if l.State() != f.state || l.Why() != f.why || l.Turns() != f.turns {
			t.Fatalf("%s: the lock's state is %d, why %d, turns %d; not %d, %d, %d", what, l.State(), l.Why(), l.Turns(), f.state, f.why, f.turns)
		}
		if k.Inserting() != f.insert || k.Last() != f.last {
			t.Fatalf("%s: insert is %v, last %02X; not %v, %02X", what, k.Inserting(), k.Last(), f.insert, f.last)
		}
	}
	if s.Other() != f.screen.Other() || s.Plane().Size() != f.screen.Plane().Size() {
		t.Fatalf("%s: the other size is %v, of %v", what, s.Other(), s.Plane().Size())
	}
	if !plane.Same(s.Plane(), f.screen.Plane()) {
		t.Fatalf("%s: %q, the cursor at %d; not %q, %d", what, drawn(s.Plane()), s.Plane().Cursor(), drawn(f.screen.Plane()), f.screen.Plane().Cursor())
	}
}

// hold presses a key on a keyboard of a screen, and on its form, and tells where they differ.
func hold(t *testing.T, k *Keyboard, s *screen.Screen, key Key) {
	t.Helper()
	f := formOf(k, s)
	what := fmt.Sprintf("%v at %d of %v, in state %d", key, s.Plane().Cursor(), s.Plane().Size(), f.state)
	was := s.Plane()
	sends, e := k.Press(key)
	wantSends, want := f.press(key)
	if sends != wantSends || e != want {
		t.Fatalf("%s: %v, %d; not %v, %d", what, sends, e, wantSends, want)
	}
	wantForm(t, k, s, f, what)
	if cleared := sends && key.Byte == 0x6D; (s.Plane() == was) == cleared {
		t.Fatalf("%s: the plane is the same one: %v", what, !cleared)
	}
}

// states are ways by which a keyboard's lock comes to each state, whatever insert is.
var states = []struct {
	name string
	do   func(l *lock.Lock)
}{
	{"Off", func(l *lock.Lock) {}},
	{"Off again", func(l *lock.Lock) { l.Open(); l.Shut() }},
	{"Ready", func(l *lock.Lock) { l.Open() }},
	{"Sent", func(l *lock.Lock) { l.Open(); l.Send() }},
	{"protected", func(l *lock.Lock) { l.Open(); l.Fail(api.ErrProtected) }},
	{"numeric", func(l *lock.Lock) { l.Open(); l.Fail(api.ErrNumeric) }},
	{"over", func(l *lock.Lock) { l.Open(); l.Fail(api.ErrOver) }},
	{"another error", func(l *lock.Lock) { l.Open(); l.Fail(api.ErrForm) }},
}

// laid is a keyboard, Ready, of a screen whose rows are drawn between blanks, with the cursor at a place. The screen has the other size, of two rows of four, if that is how it is drawn.
func laid(t *testing.T, drawing string, cursor int) (*Keyboard, *screen.Screen) {
	t.Helper()
	rows := strings.Fields(drawing)
	eight := api.Size{Rows: 2, Cols: 4}
	size := api.Size{Rows: len(rows), Cols: len(rows[0])}
	plain := size
	if size == eight {
		plain = api.Size{Rows: 1, Cols: 6}
	}
	s := sized(t, plain, eight)
	if size == eight {
		s.Do(command.Command{Kind: api.CmdEWA})
	}
	signs := strings.Join(rows, "")
	for at := range signs {
		s.Plane().Set(at, cellOf(signs[at]))
	}
	s.Plane().Point(cursor)
	k := New(s)
	k.Lock().Open()
	return k, s
}

// sized is a screen of these sizes.
func sized(t *testing.T, plain, other api.Size) *screen.Screen {
	t.Helper()
	s, e := screen.New(plain, other)
	if e != api.OK {
		t.Fatalf("%v and %v: %d", plain, other, e)
	}
	return s
}

// attributeSigns are the signs of 00, 10 (numeric), 20 (protected), 30 (skipped), and of the same, modified.
const attributeSigns = "(<[{)>]}"

// cellOf is the cell that a sign stands for: attributeSigns, A to I for C1 to C9, digits for F0 to F9, / and ; for what Dup and Mark type, . for the zero cell.
func cellOf(sign byte) api.Cell {
	if i := strings.IndexByte(attributeSigns, sign); i >= 0 {
		return api.Cell{Start: true, Byte: byte(i%4<<4 | i/4)}
	}
	switch {
	case sign >= 'A' && sign <= 'I':
		return api.Cell{Byte: sign - 'A' + 0xC1}
	case sign >= '0' && sign <= '9':
		return api.Cell{Byte: sign - '0' + 0xF0}
	case sign == '/':
		return api.Cell{Byte: 0x1C}
	case sign == ';':
		return api.Cell{Byte: 0x1E}
	}
	return api.Cell{}
}

// drawn is a plane, one sign a cell; ? is one that isn't drawn.
func drawn(p *plane.Plane) string {
	var out strings.Builder
	for at := range p.Len() {
		sign := byte('?')
		for _, of := range []byte(".ABCDEFGHI0123456789/;" + attributeSigns) {
			if cellOf(of) == p.At(at) {
				sign = of
			}
		}
		out.WriteByte(sign)
	}
	return out.String()
}

// inserts presses Insert as often as it takes, on a keyboard that is Ready.
func inserts(k *Keyboard, on bool) {
	if k.Inserting() != on {
		k.Press(Key{Kind: Insert})
	}
}

// kindsOfNone are kinds that no key is of.
var kindsOfNone = []int{0, -1, -2, -17, math.MinInt, 18, 19, 100, 256 + Char, 1<<32 + Aid, math.MaxInt}

// someKeys are keys of each kind: of Char and Aid some bytes that may be typed into numeric fields or not, and are attention keys' or aren't.
func someKeys() []Key {
	var out []Key
	for kind := Tab; kind <= Reset; kind++ {
		out = append(out, Key{Kind: kind}, Key{kind, 0x7D})
	}
	for _, b := range []byte{0x00, 0x1C, 0x1E, 0x4B, 0x60, 0x6C, 0x6D, 0x7D, 0xC1, 0xF0, 0xF9, 0xFA, 0xFF} {
		out = append(out, Key{Char, b}, Key{Aid, b})
	}
	for _, kind := range kindsOfNone {
		out = append(out, Key{Kind: kind}, Key{kind, 0x7D})
	}
	return out
}

// someKey is any key, mostly one that types or goes to another place.
func someKey(r *rand.Rand) Key {
	switch r.Intn(12) {
	case 0:
		return Key{Aid, aids[r.Intn(len(aids))]}
	case 1:
		return Key{r.Intn(21) - 1, byte(r.Intn(256))}
	case 2:
		return Key{Kind: Reset}
	case 3, 4, 5:
		return Key{Char, []byte{0xC1, 0xF1, 0x4B, 0x00, byte(r.Intn(256))}[r.Intn(5)]}
	default:
		return Key{Kind: Tab + r.Intn(Reset-Tab)}
	}
}

// strew lays any cells on a plane, one of so many an attribute, and the cursor somewhere.
func strew(r *rand.Rand, p *plane.Plane, one int) {
	for at := range p.Len() {
		c := api.Cell{Byte: byte(r.Intn(256)), GE: r.Intn(3) == 0, Light: byte(r.Intn(256)), Color: byte(r.Intn(256))}
		switch {
		case one > 0 && r.Intn(one) == 0:
			c.Start = true
		case r.Intn(2) == 0:
			c = api.Cell{}
		}
		p.Set(at, c)
	}
	p.Point(r.Intn(p.Len()))
}
