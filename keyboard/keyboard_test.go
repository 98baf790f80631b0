package keyboard

import (
	"math/rand"
	"slices"
	"testing"

	"greenscreen/api"
	"greenscreen/command"
	"greenscreen/lock"
	"greenscreen/screen"
)

func TestExample(t *testing.T) { // P22.1
	s := sized(t, api.Size{Rows: 24, Cols: 80}, api.Size{Rows: 43, Cols: 80})
	k := New(s)
	k.Lock().Open()
	if sends, e := k.Press(Key{Char, 0xC1}); sends || e != api.OK || s.Plane().At(0) != (api.Cell{Byte: 0xC1}) || s.Plane().Cursor() != 1 {
		t.Errorf("Char: %v, %d, %v", sends, e, s.Plane().At(0))
	}
	if sends, e := k.Press(Key{Aid, api.AidEnter}); !sends || e != api.OK || k.Last() != 0x7D {
		t.Errorf("ENTER: %v, %d, %02X", sends, e, k.Last())
	}
	if sends, e := k.Press(Key{Char, 0xC2}); sends || e != api.ErrLocked || s.Plane().At(1) != (api.Cell{}) || s.Plane().Cursor() != 1 {
		t.Errorf("Char, locked: %v, %d, %v", sends, e, s.Plane().At(1))
	}
}

func TestKinds(t *testing.T) { // P22.1: their numbers
	got := []int{Char, Tab, BackTab, Newline, Home, Up, Down, Left, Right, EraseEnd, EraseInput, Delete, Insert, Dup, Mark, Reset, Aid}
	for i, kind := range got {
		if kind != i+1 {
			t.Errorf("%d is %d", i+1, kind)
		}
	}
}

func TestNew(t *testing.T) { // P22.1: at first
	for _, s := range []*screen.Screen{sized(t, api.Size{Rows: 1, Cols: 1}, api.Size{Rows: 1, Cols: 1}), sized(t, api.Size{Rows: 2, Cols: 3}, api.Size{Rows: 43, Cols: 95})} {
		was := s.Plane()
		k := New(s)
		if k.Lock().State() != lock.Off || k.Lock().Turns() != 0 || k.Inserting() || k.Last() != 0x60 || s.Plane() != was {
			t.Errorf("%d, %d, %v, %02X", k.Lock().State(), k.Lock().Turns(), k.Inserting(), k.Last())
		}
		if k.Lock() != k.Lock() {
			t.Error("the lock isn't always the same one")
		}
	}
}

// drawings are screens: without fields, with fields of each kind, with one attribute alone, with nothing else, with rows, and of the other size.
var drawings = []string{
	"A", ".", "AB.C", "ABCD", "AB CD .E", "(", "{", "(A.B", "(AB", "A.(B", "<1.[A", "{A(.B", "[AB", "[A{B", "(((A", "(A.[B<2.{C)D", "(A <B [C", "A( .. {B", "(AB. C<1.", "ABCD EF.H",
}

func TestEachKey(t *testing.T) { // P22.1: each kind of key, in each state, with insert on and off, from each place, held against the chapter's form
	keys := someKeys()
	for _, drawing := range drawings {
		_, first := laid(t, drawing, 0)
		for at := range first.Plane().Len() {
			for _, state := range states {
				for _, insert := range []bool{false, true} {
					for _, key := range keys {
						_, s := laid(t, drawing, at)
						k := New(s)
						k.Lock().Open()
						inserts(k, insert)
						k.Lock().Shut()
						state.do(k.Lock())
						hold(t, k, s, key)
					}
				}
			}
		}
	}
}

func TestLockedTurnsNothing(t *testing.T) { // P22.2, and P22.1: ErrLocked is answered ahead of ErrArg, by keys of all kinds and bytes
	for _, state := range states {
		if state.name == "Ready" {
			continue
		}
		for _, drawing := range []string{"AB.C", "(A.[B<2.{C)D", "ABCD (EF."} {
			for _, insert := range []bool{false, true} {
				k, s := laid(t, drawing, 1)
				k.Press(Key{Aid, 0xF3})
				k.Lock().Restore()
				inserts(k, insert)
				k.Lock().Shut()
				state.do(k.Lock())
				f, was := formOf(k, s), s.Plane()
				for kind := -3; kind <= Aid+3; kind++ {
					if kind == Reset {
						continue
					}
					for b := range 256 {
						if sends, e := k.Press(Key{kind, byte(b)}); sends || e != api.ErrLocked {
							t.Fatalf("%s: %d, %02X: %v, %d", state.name, kind, b, sends, e)
						}
					}
				}
				for _, kind := range kindsOfNone {
					if sends, e := k.Press(Key{Kind: kind}); sends || e != api.ErrLocked {
						t.Fatalf("%s: %d: %v, %d", state.name, kind, sends, e)
					}
				}
				wantForm(t, k, s, f, state.name)
				if f.last != 0xF3 || f.insert != insert || s.Plane() != was {
					t.Fatalf("%s: last %02X, insert %v", state.name, f.last, f.insert)
				}
			}
		}
	}
}

func TestNoSuchKey(t *testing.T) { // P22.1: ErrArg, and nothing is turned, the lock neither
	for _, insert := range []bool{false, true} {
		k, s := laid(t, "[A(B.", 1)
		inserts(k, insert)
		f, was := formOf(k, s), s.Plane()
		for _, kind := range kindsOfNone {
			for b := range 256 {
				if sends, e := k.Press(Key{kind, byte(b)}); sends || e != api.ErrArg {
					t.Fatalf("%d, %02X: %v, %d", kind, b, sends, e)
				}
			}
		}
		for b := range 256 {
			if isAid(byte(b)) {
				continue
			}
			if sends, e := k.Press(Key{Aid, byte(b)}); sends || e != api.ErrArg {
				t.Fatalf("Aid %02X: %v, %d", b, sends, e)
			}
		}
		wantForm(t, k, s, f, "no such key")
		if s.Plane() != was {
			t.Error("the plane is a new one")
		}
	}
}

func TestReset(t *testing.T) { // P22.1 and P22.2: OK in each state; the lock's Reset, and insert is off
	for _, state := range states {
		for _, insert := range []bool{false, true} {
			for b := range 256 {
				k, s := laid(t, "(A.[B", 2)
				k.Press(Key{Aid, 0x6E})
				k.Lock().Restore()
				inserts(k, insert)
				k.Lock().Shut()
				state.do(k.Lock())
				f := formOf(k, s)
				if f.state == lock.Wrong {
					f.turn(lock.Ready, api.OK)
				}
				f.insert = false
				if sends, e := k.Press(Key{Reset, byte(b)}); sends || e != api.OK {
					t.Fatalf("%s: %v, %d", state.name, sends, e)
				}
				wantForm(t, k, s, f, state.name)
				if k.Last() != 0x6E {
					t.Fatalf("%s: last %02X", state.name, k.Last())
				}
			}
		}
	}
}

// pressed is a key, and what comes of it on a screen as it is drawn.
type pressed struct {
	name, before string
	at           int
	key          Key
	insert       bool
	after        string
	cursor       int
	e            api.Errno
}

// wantPressed holds keys against cases that are written out: with an error the lock is Wrong, else it is Ready as it was.
func wantPressed(t *testing.T, cases []pressed) {
	t.Helper()
	for _, c := range cases {
		k, s := laid(t, c.before, c.at)
		inserts(k, c.insert)
		sends, e := k.Press(c.key)
		if sends || e != c.e || drawn(s.Plane()) != c.after || s.Plane().Cursor() != c.cursor {
			t.Errorf("%s: %v, %d, %q, the cursor at %d; not %d, %q, %d", c.name, sends, e, drawn(s.Plane()), s.Plane().Cursor(), c.e, c.after, c.cursor)
		}
		state, turns := lock.Ready, 1
		if c.e != api.OK {
			state, turns = lock.Wrong, 2
		}
		if l := k.Lock(); l.State() != state || l.Why() != c.e || l.Turns() != turns {
			t.Errorf("%s: the lock's state is %d, why %d, turns %d", c.name, l.State(), l.Why(), l.Turns())
		}
		if k.Inserting() != c.insert || k.Last() != 0x60 {
			t.Errorf("%s: insert is %v, last %02X", c.name, k.Inserting(), k.Last())
		}
	}
}

func TestTyped(t *testing.T) { // P22.1: layer 20, with insert as it is, and layer 17's Open
	wantPressed(t, []pressed{
		{"Char", "(AB.[C", 1, Key{Char, 0xC9}, false, ")IB.[C", 2, 0},
		{"Char, insert", "(AB.[C", 1, Key{Char, 0xC9}, true, ")IAB[C", 2, 0},
		{"Char without fields", "AB.C", 0, Key{Char, 0xC9}, false, "IB.C", 1, 0},
		{"Char without fields, insert", "AB.C", 0, Key{Char, 0xC9}, true, "IABC", 1, 0},
		{"Char at a protected place", "(A[B", 3, Key{Char, 0xC9}, false, "(A[B", 3, 41},
		{"Char at an attribute", "(A[B", 0, Key{Char, 0xC9}, true, "(A[B", 0, 41},
		{"a letter at a numeric place", "<1.[B", 1, Key{Char, 0xC9}, false, "<1.[B", 1, 42},
		{"a figure at a numeric place", "<1.[B", 1, Key{Char, 0xF2}, true, ">21[B", 2, 0},
		{"Char without room", "(AB[.", 1, Key{Char, 0xC9}, true, "(AB[.", 1, 43},
		{"Char without room, and without insert", "(AB[.", 1, Key{Char, 0xC9}, false, ")IB[.", 2, 0},
		{"Char into the next field", "(A(B", 1, Key{Char, 0xC9}, false, ")I(B", 3, 0},
		{"EraseEnd", "(ABC[D", 2, Key{Kind: EraseEnd}, false, ")A..[D", 2, 0},
		{"EraseEnd, insert", "(ABC[D", 2, Key{Kind: EraseEnd}, true, ")A..[D", 2, 0},
		{"EraseEnd without fields", "ABCD", 2, Key{Kind: EraseEnd}, false, "AB..", 2, 0},
		{"EraseEnd at a protected place", "(ABC[D", 5, Key{Kind: EraseEnd}, false, "(ABC[D", 5, 41},
		{"EraseInput", ")AB[C}D>2", 6, Key{Kind: EraseInput}, false, "(..[C}D<.", 1, 0},
		{"EraseInput, insert", ")AB[C}D>2", 4, Key{Kind: EraseInput}, true, "(..[C}D<.", 1, 0},
		{"EraseInput without fields", "AB.C", 2, Key{Kind: EraseInput}, false, "....", 0, 0},
		{"EraseInput of protected fields alone", "[A]B", 3, Key{Kind: EraseInput}, false, "[A]B", 0, 0},
		{"Delete", "(ABC[D", 1, Key{Kind: Delete}, false, ")BC.[D", 1, 0},
		{"Delete, insert", "(ABC[D", 2, Key{Kind: Delete}, true, ")AC.[D", 2, 0},
		{"Delete without fields", "ABCD", 1, Key{Kind: Delete}, false, "ACD.", 1, 0},
		{"Delete at a protected place", "(ABC[D", 4, Key{Kind: Delete}, true, "(ABC[D", 4, 41},
		{"Dup", "(A.(B", 1, Key{Kind: Dup}, false, ")/.(B", 4, 0},
		{"Dup, insert", "(A.(B", 1, Key{Kind: Dup}, true, ")/A(B", 4, 0},
		{"Dup at a numeric place", "<1(B", 1, Key{Kind: Dup}, false, ">/(B", 3, 0},
		{"Dup at a protected place", "(A[B", 3, Key{Kind: Dup}, false, "(A[B", 3, 41},
		{"Dup without room", "(AB", 1, Key{Kind: Dup}, true, "(AB", 1, 43},
		{"Mark", "(A.[B", 1, Key{Kind: Mark}, false, ");.[B", 2, 0},
		{"Mark, insert", "(A.[B", 1, Key{Kind: Mark}, true, ");A[B", 2, 0},
		{"Mark at a numeric place", "<1[B", 1, Key{Kind: Mark}, false, "<1[B", 1, 42},
		{"Mark at a protected place", "(A[B", 3, Key{Kind: Mark}, true, "(A[B", 3, 41},
		{"Mark without room", "(AB", 2, Key{Kind: Mark}, true, "(AB", 2, 43},
	})
}

func TestMoved(t *testing.T) { // P22.1: layer 19; a row or a column, round the plane's ends
	for _, insert := range []bool{false, true} {
		wantPressed(t, []pressed{
			{"Tab", "(A[B(C", 1, Key{Kind: Tab}, insert, "(A[B(C", 5, 0},
			{"Tab round the end", "(A[B(C", 5, Key{Kind: Tab}, insert, "(A[B(C", 1, 0},
			{"Tab without fields", "AB.C", 2, Key{Kind: Tab}, insert, "AB.C", 0, 0},
			{"BackTab", "(AB(CD", 5, Key{Kind: BackTab}, insert, "(AB(CD", 4, 0},
			{"BackTab to the field ahead", "(AB(CD", 4, Key{Kind: BackTab}, insert, "(AB(CD", 1, 0},
			{"BackTab round the end", "(AB(CD", 1, Key{Kind: BackTab}, insert, "(AB(CD", 4, 0},
			{"Newline", "AB CD EF", 1, Key{Kind: Newline}, insert, "ABCDEF", 2, 0},
			{"Newline round the end", "AB CD EF", 5, Key{Kind: Newline}, insert, "ABCDEF", 0, 0},
			{"Newline to an open place", "(A [B (C", 0, Key{Kind: Newline}, insert, "(A[B(C", 5, 0},
			{"Home", "[A(BC", 4, Key{Kind: Home}, insert, "[A(BC", 3, 0},
			{"Home without fields", "ABC", 2, Key{Kind: Home}, insert, "ABC", 0, 0},
			{"Up", "ABC DEF", 4, Key{Kind: Up}, insert, "ABCDEF", 1, 0},
			{"Up round the end", "ABC DEF", 2, Key{Kind: Up}, insert, "ABCDEF", 5, 0},
			{"Down", "ABC DEF", 1, Key{Kind: Down}, insert, "ABCDEF", 4, 0},
			{"Down round the end", "ABC DEF", 5, Key{Kind: Down}, insert, "ABCDEF", 2, 0},
			{"Left", "ABC DEF", 2, Key{Kind: Left}, insert, "ABCDEF", 1, 0},
			{"Left to the row ahead", "ABC DEF", 3, Key{Kind: Left}, insert, "ABCDEF", 2, 0},
			{"Left round the end", "ABC DEF", 0, Key{Kind: Left}, insert, "ABCDEF", 5, 0},
			{"Right", "ABC DEF", 0, Key{Kind: Right}, insert, "ABCDEF", 1, 0},
			{"Right to the next row", "ABC DEF", 2, Key{Kind: Right}, insert, "ABCDEF", 3, 0},
			{"Right round the end", "ABC DEF", 5, Key{Kind: Right}, insert, "ABCDEF", 0, 0},
			{"to protected places and attributes too", "[A(B", 2, Key{Kind: Left}, insert, "[A(B", 1, 0},
			{"one row", "ABC", 1, Key{Kind: Down}, insert, "ABC", 1, 0},
			{"one cell", "A", 0, Key{Kind: Right}, insert, "A", 0, 0},
		})
	}
}

func TestErrorsOfTyping(t *testing.T) { // P22.1 and P22.2: the lock is Wrong, nothing is typed till Reset, which lets insert be off; or till Restore
	for _, c := range []struct {
		key    Key
		before string
		at     int
		insert bool
		e      api.Errno
		text   string
	}{
		{Key{Char, 0xC1}, "[A(B", 1, false, api.ErrProtected, "X PROTECTED"},
		{Key{Char, 0xC1}, "[A(B", 1, true, api.ErrProtected, "X PROTECTED"},
		{Key{Char, 0xC1}, "<1(B", 1, false, api.ErrNumeric, "X NUMERIC"},
		{Key{Char, 0xC1}, "<1(B", 1, true, api.ErrNumeric, "X NUMERIC"},
		{Key{Char, 0xC1}, "(A(B", 1, true, api.ErrOver, "X OVERFLOW"},
		{Key{Char, 0xC1}, "ABCD", 1, true, api.ErrOver, "X OVERFLOW"},
		{Key{Kind: EraseEnd}, "[A(B", 0, false, api.ErrProtected, "X PROTECTED"},
		{Key{Kind: Delete}, "[A(B", 1, true, api.ErrProtected, "X PROTECTED"},
		{Key{Kind: Dup}, "[A(B", 2, false, api.ErrProtected, "X PROTECTED"},
		{Key{Kind: Dup}, "<1(B", 1, true, api.ErrOver, "X OVERFLOW"},
		{Key{Kind: Mark}, "[A(B", 1, false, api.ErrProtected, "X PROTECTED"},
		{Key{Kind: Mark}, "<1(B", 1, false, api.ErrNumeric, "X NUMERIC"},
		{Key{Kind: Mark}, "(A(B", 1, true, api.ErrOver, "X OVERFLOW"},
	} {
		for _, back := range []func(k *Keyboard){func(k *Keyboard) { k.Press(Key{Kind: Reset}) }, func(k *Keyboard) { k.Host(screen.Result{Restore: true}) }} {
			k, s := laid(t, c.before, c.at)
			inserts(k, c.insert)
			f := formOf(k, s)
			f.turn(lock.Wrong, c.e)
			if sends, e := k.Press(c.key); sends || e != c.e {
				t.Fatalf("%v on %q: %v, %d", c.key, c.before, sends, e)
			}
			wantForm(t, k, s, f, c.before)
			if k.Lock().Text() != c.text {
				t.Errorf("%v on %q: %q", c.key, c.before, k.Lock().Text())
			}
			for _, key := range someKeys() {
				if key.Kind == Reset {
					continue
				}
				if sends, e := k.Press(key); sends || e != api.ErrLocked {
					t.Fatalf("%v behind an error: %v, %d", key, sends, e)
				}
			}
			wantForm(t, k, s, f, c.before)
			back(k)
			f.turn(lock.Ready, api.OK)
			f.insert = false
			wantForm(t, k, s, f, "ready again")
			k.Press(Key{Kind: Tab})
			at := s.Plane().Cursor()
			if sends, e := k.Press(Key{Char, 0xF5}); sends || e != api.OK || s.Plane().At(at).Byte != 0xF5 {
				t.Errorf("typed again: %v, %d, %v", sends, e, s.Plane().At(at))
			}
		}
	}
}

func TestInsert(t *testing.T) { // P22.1: on, off, on; nothing else is turned
	k, s := laid(t, "(A..[B", 1)
	f := formOf(k, s)
	for i := range 7 {
		if sends, e := k.Press(Key{Insert, byte(i)}); sends || e != api.OK {
			t.Fatalf("%v, %d", sends, e)
		}
		f.insert = !f.insert
		wantForm(t, k, s, f, "Insert")
	}
	for _, c := range []struct {
		key    Key
		insert bool
		after  string
	}{
		{Key{Char, 0xC2}, true, ")BA.[B"},
		{Key{Kind: Left}, true, ")BA.[B"},
		{Key{Char, 0xC3}, true, ")CBA[B"},
		{Key{Kind: Insert}, false, ")CBA[B"},
		{Key{Char, 0xC4}, false, ")CDA[B"},
		{Key{Kind: Insert}, true, ")CDA[B"},
		{Key{Kind: Delete}, true, ")CD.[B"},
		{Key{Kind: Home}, true, ")CD.[B"},
		{Key{Kind: Mark}, true, ");CD[B"},
		{Key{Kind: Reset}, false, ");CD[B"},
		{Key{Kind: Reset}, false, ");CD[B"},
		{Key{Char, 0xC5}, false, ");ED[B"},
	} {
		k.Press(c.key)
		if k.Inserting() != c.insert || drawn(s.Plane()) != c.after {
			t.Fatalf("%v: %v, %q, not %v, %q", c.key, k.Inserting(), drawn(s.Plane()), c.insert, c.after)
		}
	}
}

func TestAttentionKeys(t *testing.T) { // P22.1: each is sent, and is Last; insert is off; but for CLEAR the plane stays as it is
	for _, aid := range []byte(aids) {
		for _, before := range []string{"(A.[B", "AB.C", "ABCD )E.F"} {
			for _, insert := range []bool{false, true} {
				k, s := laid(t, before, 1)
				inserts(k, insert)
				f, was := formOf(k, s), s.Plane()
				f.turn(lock.Sent, api.OK)
				f.last, f.insert = aid, false
				if aid == 0x6D {
					f.screen.Clear()
				}
				if sends, e := k.Press(Key{Aid, aid}); !sends || e != api.OK {
					t.Fatalf("%02X: %v, %d", aid, sends, e)
				}
				wantForm(t, k, s, f, Name(Key{Aid, aid}))
				if (s.Plane() == was) != (aid != 0x6D) {
					t.Errorf("%02X: another plane: %v", aid, s.Plane() != was)
				}
				if sends, e := k.Press(Key{Aid, aid}); sends || e != api.ErrLocked {
					t.Errorf("%02X again: %v, %d", aid, sends, e)
				}
				wantForm(t, k, s, f, "locked")
			}
		}
	}
}

func TestClear(t *testing.T) { // P22.1: the screen's Clear, behind a write alternate too
	k, s := laid(t, "AB.C", 2)
	if r := s.Run([]byte{0x7E, 0xC3, 0xC1, 0xC2, 0x13}); r.Err != api.OK || !s.Other() || s.Plane().Cursor() != 2 {
		t.Fatalf("%v, %v", r, s.Other())
	}
	was := s.Plane()
	if sends, e := k.Press(Key{Aid, api.AidClear}); !sends || e != api.OK {
		t.Fatalf("%v, %d", sends, e)
	}
	if p := s.Plane(); s.Other() || p == was || p.Size() != (api.Size{Rows: 1, Cols: 4}) || drawn(p) != "...." || p.Cursor() != 0 {
		t.Errorf("%v, %q, the cursor at %d", s.Other(), drawn(p), p.Cursor())
	}
	if drawn(was) != "AB......" {
		t.Errorf("the plane that was: %q", drawn(was))
	}
	// What is typed now stands on the new plane.
	k.Host(screen.Result{Restore: true})
	if _, e := k.Press(Key{Char, 0xC3}); e != api.OK || drawn(s.Plane()) != "C..." || drawn(was) != "AB......" {
		t.Errorf("%d, %q", e, drawn(s.Plane()))
	}
}

func TestPlaneOfNow(t *testing.T) { // P22.1: keys go to the plane that the screen has when they are pressed
	k, s := laid(t, "AB.C", 3)
	for i, b := range [][]byte{{0xF5, 0x02, 0x1D, 0x40, 0xC1}, {0x7E, 0x02, 0x1D, 0x40, 0xC1, 0x13}, {0xF5, 0x02}, {0xF3, 0, 4, 3, 0x80}} {
		was := s.Plane()
		before := drawn(was)
		k.Host(s.Run(b))
		k.Press(Key{Kind: Home})
		if sends, e := k.Press(Key{Char, 0xC9}); sends || e != api.OK {
			t.Errorf("case %d: %v, %d", i, sends, e)
		}
		if want := []string{")I..", ")I......", "I...", "I......."}[i]; drawn(s.Plane()) != want || drawn(was) != before {
			t.Errorf("case %d: %q, and what was %q, not %q, %q", i, drawn(s.Plane()), drawn(was), want, before)
		}
	}
}

func TestHost(t *testing.T) { // P22.1: with Restore and without, in each state of the lock, with insert on and off, behind each key sent
	for _, state := range states {
		for _, insert := range []bool{false, true} {
			for _, aid := range []byte("\x00" + aids) {
				for _, r := range []screen.Result{
					{}, {Alarm: true}, {Reply: 0xF6}, {Err: api.ErrOrder}, {Reply: 2, Alarm: true, Err: api.ErrShort},
					{Restore: true}, {Restore: true, Alarm: true}, {Restore: true, Reply: 0xF2}, {Restore: true, Err: api.ErrOrder},
				} {
					k, s := laid(t, "(A.[B", 2)
					if aid != 0 {
						k.Press(Key{Aid, aid})
						k.Lock().Restore()
					}
					inserts(k, insert)
					k.Lock().Shut()
					state.do(k.Lock())
					f, was := formOf(k, s), s.Plane()
					if aid != 0 && f.last != aid || aid == 0 && f.last != 0x60 || f.insert != insert {
						t.Fatalf("%s, %02X: last %02X, insert %v", state.name, aid, f.last, f.insert)
					}
					k.Host(r)
					f.host(r)
					wantForm(t, k, s, f, state.name)
					if s.Plane() != was {
						t.Fatalf("%s: the plane is a new one", state.name)
					}
				}
			}
		}
	}
}

func TestLast(t *testing.T) { // P22.1: at first, behind an attention key, behind one that isn't sent, behind a Restore
	k, _ := laid(t, "(A.[B", 1)
	restore := screen.Result{Restore: true}
	for i, c := range []struct {
		do   func()
		want byte
	}{
		{func() {}, 0x60},
		{func() { k.Press(Key{Char, 0x7D}) }, 0x60},
		{func() { k.Press(Key{Aid, 0x60}) }, 0x60},
		{func() { k.Press(Key{Aid, 0x88}) }, 0x60},
		{func() { k.Press(Key{Aid, 0x6C}) }, 0x6C},
		{func() { k.Press(Key{Aid, 0x7D}) }, 0x6C},
		{func() { k.Host(screen.Result{Alarm: true}) }, 0x6C},
		{func() { k.Press(Key{Kind: Reset}) }, 0x6C},
		{func() { k.Host(restore) }, 0x60},
		{func() { k.Press(Key{Aid, 0xF1}) }, 0xF1},
		{func() { k.Lock().Open() }, 0xF1},
		{func() { k.Press(Key{Aid, 0x6D}) }, 0x6D},
		{func() { k.Lock().Shut() }, 0x6D},
		{func() { k.Host(restore) }, 0x60},
		{func() { k.Press(Key{Aid, 0x7D}) }, 0x60},
		{func() { k.Host(restore) }, 0x60},
	} {
		c.do()
		if got := k.Last(); got != c.want {
			t.Errorf("step %d: %02X, not %02X", i, got, c.want)
		}
	}
}

// great are sizes of screens as they are, and small ones.
var great = []api.Size{{Rows: 24, Cols: 80}, {Rows: 43, Cols: 95}, {Rows: 1, Cols: 1}, {Rows: 3, Cols: 4}, {Rows: 2, Cols: 5}, {Rows: 1, Cols: 9}}

// someRecord is any record: of W, EW, EWA, EAU, a read, or a reset, that may restore.
func someRecord(r *rand.Rand) []byte {
	kind := []byte{0xF1, 0xF1, 0xF5, 0x7E, 0x6F, 0xF2, 0xF3, 0x99}[r.Intn(8)]
	if kind == 0xF3 {
		return []byte{kind, 0, 4, 3, byte(r.Intn(2))}
	}
	b := []byte{kind, byte(r.Intn(8))}
	for range r.Intn(6) {
		b = append(b, []byte{0x1D, byte(r.Intn(64)), 0xC1, 0xF1, 0x13, 0x05, 0x40}[r.Intn(7)])
	}
	return b
}

func TestRows(t *testing.T) { // P22.1, P22.2: every order of keys, commands, and calls of the lock, held against the chapter's form
	r := rand.New(rand.NewSource(81))
	met := map[api.Errno]int{}
	sent := 0
	for i := range 600 {
		s := sized(t, great[i%len(great)], great[r.Intn(len(great))])
		k := New(s)
		strew(r, s.Plane(), []int{0, 2, 3, 5, 20}[i%5])
		for range 60 {
			switch r.Intn(14) {
			case 0:
				f, b := formOf(k, s), someRecord(r)
				k.Host(s.Run(b))
				f.host(f.screen.Run(b))
				wantForm(t, k, s, f, "a record")
			case 1:
				k.Lock().Open()
			case 2:
				k.Press(Key{Kind: Reset})
			case 3:
				if r.Intn(8) == 0 {
					k.Lock().Shut()
				}
			case 4:
				if s.Plane().Len() < 20 {
					strew(r, s.Plane(), r.Intn(4))
				}
			default:
				key := someKey(r)
				was := k.Last()
				hold(t, k, s, key)
				met[k.Lock().Why()]++
				if k.Lock().State() == lock.Sent && k.Last() != was {
					sent++
				}
			}
		}
	}
	if met[41] < 100 || met[42] < 100 || met[43] < 20 || sent < 100 {
		t.Errorf("met %v, sent %d", met, sent)
	}
}

func TestTwoKeyboards(t *testing.T) { // P22.1: of one screen; each has its own lock, insert, and Last
	a, s := laid(t, "(A..[B", 1)
	b := New(s)
	a.Press(Key{Kind: Insert})
	a.Press(Key{Char, 0xC2})
	if b.Inserting() || b.Lock().State() != lock.Off || drawn(s.Plane()) != ")BA.[B" {
		t.Errorf("%v, %d, %q", b.Inserting(), b.Lock().State(), drawn(s.Plane()))
	}
	b.Lock().Open()
	a.Press(Key{Aid, 0xF2})
	if sends, e := b.Press(Key{Char, 0xC3}); sends || e != api.OK || drawn(s.Plane()) != ")BC.[B" || b.Last() != 0x60 || a.Last() != 0xF2 {
		t.Errorf("%v, %d, %q, %02X, %02X", sends, e, drawn(s.Plane()), b.Last(), a.Last())
	}
}

func TestOfNoScreen(t *testing.T) { // P1: a keyboard of a screen that was never made has no place to type at, but sends
	zero := &screen.Screen{}
	for _, k := range []*Keyboard{New(nil), New(zero), {}} {
		if k.Lock().State() != lock.Off || k.Inserting() || k.Last() != 0x60 {
			t.Errorf("at first: %d, %v, %02X", k.Lock().State(), k.Inserting(), k.Last())
		}
		for _, key := range someKeys() {
			want := api.ErrLocked
			if key.Kind == Reset {
				want = api.OK
			}
			if sends, e := k.Press(key); sends || e != want {
				t.Errorf("%v, locked: %v, %d", key, sends, e)
			}
		}
		for _, key := range someKeys() {
			k.Lock().Open()
			inserts(k, false)
			want := api.OK
			switch {
			case slices.Contains([]int{Char, EraseEnd, Delete, Dup, Mark}, key.Kind):
				want = api.ErrProtected
			case key.Kind == Aid && !isAid(key.Byte), slices.Contains(kindsOfNone, key.Kind):
				want = api.ErrArg
			}
			if sends, e := k.Press(key); e != want || sends != (want == api.OK && key.Kind == Aid) {
				t.Errorf("%v: %v, %d, not %d", key, sends, e, want)
			}
			if k.Inserting() != (key.Kind == Insert) {
				t.Errorf("%v: insert is %v", key, k.Inserting())
			}
		}
		k.Lock().Open()
		k.Press(Key{Aid, 0x6D})
		if k.Last() != 0x6D || k.Lock().State() != lock.Sent {
			t.Errorf("%02X, %d", k.Last(), k.Lock().State())
		}
		k.Host(screen.Result{Restore: true})
		if k.Last() != 0x60 || k.Lock().State() != lock.Ready {
			t.Errorf("%02X, %d", k.Last(), k.Lock().State())
		}
	}
	if zero.Plane().Len() != 0 {
		t.Error("the screen has cells")
	}
}

func TestNeverMade(t *testing.T) { // P1: a keyboard that was never made stays locked
	var k *Keyboard
	for range 2 {
		if k.Lock().State() != lock.Off || k.Inserting() || k.Last() != 0x60 {
			t.Errorf("%d, %v, %02X", k.Lock().State(), k.Inserting(), k.Last())
		}
		for _, key := range someKeys() {
			want := api.ErrLocked
			if key.Kind == Reset {
				want = api.OK
			}
			if sends, e := k.Press(key); sends || e != want {
				t.Errorf("%v: %v, %d", key, sends, e)
			}
		}
		k.Host(screen.Result{Restore: true})
		k.Host(screen.Result{})
		k.Lock().Open()
	}
}

func TestCommandsAndKeys(t *testing.T) { // P22.1: a host that writes, and what is typed behind it
	k, s := laid(t, "......", 0)
	k.Press(Key{Kind: Insert})
	k.Press(Key{Aid, 0x7D})
	ew := command.Command{Kind: api.CmdEW, Orders: []api.Order{{Kind: api.OrderSF, Byte: 0x10}, {Kind: api.OrderIC}}}
	k.Host(s.Do(ew))
	if _, e := k.Press(Key{Char, 0xF1}); e != api.ErrLocked || k.Last() != 0x7D || drawn(s.Plane()) != "<....." {
		t.Errorf("not restored: %d, %02X, %q", e, k.Last(), drawn(s.Plane()))
	}
	ew.WCC = 2
	k.Host(s.Do(ew))
	if _, e := k.Press(Key{Char, 0xF1}); e != api.OK || k.Last() != 0x60 || k.Inserting() || drawn(s.Plane()) != ">1...." {
		t.Errorf("restored: %d, %02X, %q", e, k.Last(), drawn(s.Plane()))
	}
}
