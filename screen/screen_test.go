package screen

import (
	"math"
	"math/rand"
	"slices"
	"testing"

	"greenscreen/api"
	"greenscreen/command"
	"greenscreen/plane"
)

// deed is a command done on a screen, and what it is then. Of which size it is is told by how long the drawing is.
type deed struct {
	name   string
	before string
	cursor int
	c      command.Command
	after  string
	at     int
	want   Result
}

// wantDeeds tells what isn't as drawn.
func wantDeeds(t *testing.T, all []deed) {
	t.Helper()
	for _, d := range all {
		s := laid(t, d.before, d.cursor)
		got := s.Do(d.c)
		if got != d.want {
			t.Errorf("%s: %v, not %v", d.name, got, d.want)
		}
		if p := s.Plane(); drawn(p) != d.after || p.Cursor() != d.at || s.Other() != (len(d.after) == 8) {
			t.Errorf("%s: %q, the cursor at %d, other size %v; not %q, %d", d.name, drawn(p), p.Cursor(), s.Other(), d.after, d.at)
		}
	}
}

// What comes of commands, written short.
var (
	nothing  = Result{}
	restored = Result{Restore: true}
	alarmed  = Result{Alarm: true}
	both     = Result{Restore: true, Alarm: true}
)

func failed(e api.Errno) Result { return Result{Err: e} }
func replies(b byte) Result     { return Result{Reply: b} }

// wrong are sizes that aren't right.
var wrong = []api.Size{
	{}, {Rows: 0, Cols: 80}, {Rows: 24, Cols: 0}, {Rows: -1, Cols: 80}, {Rows: 24, Cols: -1}, {Rows: -24, Cols: -80}, {Rows: 44, Cols: 1}, {Rows: 1, Cols: 133}, {Rows: 43, Cols: 132}, {Rows: 43, Cols: 96}, {Rows: 32, Cols: 129},
	{Rows: math.MaxInt, Cols: math.MaxInt}, {Rows: math.MinInt, Cols: math.MinInt}, {Rows: 1 << 32, Cols: 1 << 32},
}

// right are sizes that are, the edges too.
var right = []api.Size{{Rows: 1, Cols: 1}, {Rows: 43, Cols: 1}, {Rows: 1, Cols: 132}, {Rows: 43, Cols: 95}, {Rows: 32, Cols: 128}, {Rows: 24, Cols: 80}, {Rows: 31, Cols: 132}}

func TestNew(t *testing.T) { // P18.1: alike and unlike
	for _, plain := range append(slices.Clone(right), sizes...) {
		for _, other := range append(slices.Clone(right), sizes...) {
			s := sized(t, plain, other)
			want, _ := plane.New(plain)
			wantForm(t, s, &form{plain: plain, other: other, plane: want}, "at first")
			s.Do(only(api.CmdEWA))
			want, _ = plane.New(other)
			wantForm(t, s, &form{plain: plain, other: other, isOther: true, plane: want}, "the other size")
			s.Do(only(api.CmdEW))
			want, _ = plane.New(plain)
			wantForm(t, s, &form{plain: plain, other: other, plane: want}, "the plain size")
		}
	}
}

func TestNewNotRight(t *testing.T) { // P18.1: the first, the second, both
	for _, bad := range wrong {
		for _, good := range right {
			for _, pair := range [][2]api.Size{{bad, good}, {good, bad}, {bad, bad}} {
				if s, e := New(pair[0], pair[1]); s != nil || e != api.ErrArg {
					t.Errorf("%v: %v %d", pair, s, e)
				}
			}
		}
		for _, bad2 := range wrong {
			if s, e := New(bad, bad2); s != nil || e != api.ErrArg {
				t.Errorf("%v, %v: %v %d", bad, bad2, s, e)
			}
		}
	}
}

func TestWrite(t *testing.T) { // P18.1: W
	w := byte(api.CmdW)
	wantDeeds(t, []deed{
		{"no orders", ")A(B]C", 1, write(w, 0), ")A(B]C", 1, nothing},
		{"not clean", ")A(B]C", 1, write(w, 6), ")A(B]C", 1, both},
		{"clean", ")A(B]C", 1, write(w, 1), "(A(B[C", 1, nothing},
		{"clean, the bits that are none too", ")A(B]C", 1, write(w, 0xF9), "(A(B[C", 1, nothing},
		{"not clean, the bits that are none", ")A(B]C", 1, write(w, 0xF8), ")A(B]C", 1, nothing},
		{"clean without fields", "ABCDEF", 1, write(w, 1), "ABCDEF", 1, nothing},
		{"from the cursor on", "ABC...", 3, write(w, 0, data(0xC4, 0xC5)), "ABCDE.", 3, nothing},
		{"from the cursor on, round the end", "ABC...", 5, write(w, 0, data(0xC4, 0xC5)), "EBC..D", 5, nothing},
		{"from 0 on, where the cursor is", "ABC...", 0, write(w, 0, data(0xC4, 0xC5)), "DEC...", 0, nothing},
		{"from elsewhere on", "ABC...", 5, write(w, 0, sba(1), data(0xC4)), "ADC...", 5, nothing},
		{"the cursor", "ABC...", 5, write(w, 0, sba(2), ic, data(0xC4)), "ABD...", 2, nothing},
		{"clean ahead of the orders", ")A(B]C", 2, write(w, 1, sf(0x21)), "(A]B[C", 2, nothing},
		{"clean ahead of orders that can't be done", ")A(B]C", 2, write(w, 7, none), "(A(B[C", 2, failed(api.ErrOrder)},
		{"not clean, and orders that can't be done", ")A(B]C", 2, write(w, 6, none), ")A(B]C", 2, failed(api.ErrOrder)},
		{"on the other size", "ABCDEFGH", 6, write(w, 2, data(0xC1, 0xC2, 0xC3)), "CBCDEFAB", 6, restored},
		{"to the last place of the other size", "ABCDEFGH", 6, write(w, 4, sba(7), data(0xC1)), "ABCDEFGA", 6, alarmed},
		{"to a place of the other size alone", "ABCDEF", 4, write(w, 4, sba(7), data(0xC1)), "ABCDEF", 4, failed(api.ErrAddress)},
	})
}

func TestErase(t *testing.T) { // P18.1: EW and EWA
	for _, before := range []string{"......", "ABCDEF", ")A(B]C", "abcdef", "]]]]]]", "........", ")A(B]CDE"} {
		for cursor := range len(before) {
			wantDeeds(t, []deed{
				{"EW", before, cursor, write(api.CmdEW, 0), "......", 0, nothing},
				{"EW, clean", before, cursor, write(api.CmdEW, 1), "......", 0, nothing},
				{"EW of orders", before, cursor, write(api.CmdEW, 2, data(0xC1), sf(0x21), data(0xC2)), "A]B...", 0, restored},
				{"EW, clean, of orders", before, cursor, write(api.CmdEW, 7, data(0xC1), sf(0x21), data(0xC2)), "A]B...", 0, both},
				{"EW of orders that ask where fields are", before, cursor, write(api.CmdEW, 4, pt, data(0xC1), eua(4), ra(0, 0xC2)), "A...BB", 0, alarmed},
				{"EW, and the cursor", before, cursor, write(api.CmdEW, 4, sba(5), ic), "......", 5, alarmed},
				{"EW, and what can't be done", before, cursor, write(api.CmdEW, 7, data(0xC1), sba(6), data(0xC2)), "A.....", 0, failed(api.ErrAddress)},
				{"EWA", before, cursor, write(api.CmdEWA, 0), "........", 0, nothing},
				{"EWA of orders", before, cursor, write(api.CmdEWA, 2, sba(7), data(0xC1, 0xC2)), "B......A", 0, restored},
				{"EWA, clean, of orders", before, cursor, write(api.CmdEWA, 1, sba(6), sf(0x21)), "......].", 0, nothing},
				{"EWA, and what can't be done", before, cursor, write(api.CmdEWA, 7, data(0xC1), mf, data(0xC2)), "A.......", 0, failed(api.ErrOrder)},
			})
		}
	}
}

func TestEachWCC(t *testing.T) { // P18.1: Restore and Alarm as it says; with an error neither
	for wcc := range 256 {
		want := Result{Restore: wcc&2 != 0, Alarm: wcc&4 != 0}
		for _, kind := range []byte{api.CmdW, api.CmdEW, api.CmdEWA} {
			after := map[byte]string{api.CmdW: "A)A(B]", api.CmdEW: "A.....", api.CmdEWA: "A......."}[kind]
			if kind == api.CmdW && wcc%2 == 1 {
				after = "A(A(B["
			}
			c := write(kind, byte(wcc), data(0xC1))
			wantDeeds(t, []deed{
				{"alone", "C)A(B]", 0, c, after, 0, want},
				{"with an error", "C)A(B]", 0, write(kind, byte(wcc), data(0xC1), sba(8)), after, 0, failed(api.ErrAddress)},
				{"with the command's error", "C)A(B]", 0, behind(c, api.ErrShort), after, 0, failed(api.ErrShort)},
				{"within a field", "C)A(B]", 0, wsf(within(c)), after, 0, want},
				{"within a field, with an error", "C)A(B]", 0, wsf(within(behind(c, api.ErrShort))), after, 0, failed(api.ErrShort)},
				{"within a field, with an error behind", "C)A(B]", 0, behind(wsf(within(c)), api.ErrStruct), after, 0, failed(api.ErrStruct)},
			})
		}
	}
}

func TestOpen(t *testing.T) { // P18.1: EAU; what stands in it beside its kind doesn't count
	c := command.Command{Kind: api.CmdEAU, WCC: 5, Orders: []api.Order{data(0xC9), none}, Err: api.ErrShort, Fields: []command.Field{reset(0x80), read(2)}}
	for _, c := range []command.Command{only(api.CmdEAU), c, wsf(within(c))} {
		wantDeeds(t, []deed{
			{"fields", ")A]B(C", 3, c, "(.]B(.", 1, restored},
			{"protected fields alone", "A]B[CD", 3, c, "A]B[CD", 0, restored},
			{"none", "ABCabc", 3, c, "......", 0, restored},
			{"a field round the end", "A[B[C)", 3, c, ".[B[C(", 0, restored},
			{"home isn't at 0", "[A]BC(.D", 6, c, "[A]BC(..", 6, restored},
		})
	}
}

func TestReadsTurnNothing(t *testing.T) { // P18.3, and P18.1: the Reply
	eachScreen(t, func(r *rand.Rand, s *Screen, plain, other api.Size) {
		was, before := s.Plane(), s.Plane().Clone()
		for _, kind := range []byte{api.CmdRB, api.CmdRM, api.CmdRMA} {
			c := someCommand(r, 9, 1)
			c.Kind = kind
			for _, d := range []struct {
				c    command.Command
				want Result
			}{
				{only(kind), replies(kind)},
				{c, replies(kind)},
				{wsf(read(kind)), replies(kind)},
				{wsf(within(c)), nothing},
				{wsf(within(c), read(2)), replies(2)},
				{wsf(read(0x77), within(c)), replies(0x77)},
			} {
				if got := hold(t, s, plain, other, d.c); got != d.want {
					t.Fatalf("%v: %v, not %v", d.c, got, d.want)
				}
			}
			for _, b := range [][]byte{{kind}, {kind & 0x0F}, {kind, 7, 0xC1}, {0xF3, 0, 5, 1, 0, kind}} {
				if got := s.Run(b); got != replies(kind) {
					t.Fatalf("%x: %v", b, got)
				}
			}
		}
		if s.Plane() != was {
			t.Fatal("a read made a new plane")
		}
		wantPlane(t, was, before, "read")
	})
}

func TestNoKind(t *testing.T) { // P18.1: nothing is turned; the other form of a command isn't how it is told
	for kind := range 256 {
		if slices.Contains(commands, byte(kind)) {
			continue
		}
		for _, before := range []string{")A(B]C", ")A(B]CDE"} {
			c := command.Command{Kind: byte(kind), WCC: 7, Orders: []api.Order{data(0xC9)}, Err: api.ErrShort, Fields: []command.Field{reset(0), reset(0x80), read(2)}}
			s := laid(t, before, 3)
			was := s.Plane()
			for _, c := range []command.Command{only(byte(kind)), c, wsf(within(c)), wsf(read(2), within(c), reset(0))} {
				if got := s.Do(c); got != failed(api.ErrCommand) || s.Plane() != was || drawn(was) != before || was.Cursor() != 3 || s.Other() != (len(before) == 8) {
					t.Errorf("%x: %v, %q", kind, got, drawn(s.Plane()))
				}
			}
		}
	}
}

func TestOrdersThatCannotBeDone(t *testing.T) { // P18.1 and P18.2: what stands ahead is done, nothing behind it
	bad := []struct {
		o api.Order
		e api.Errno
	}{{none, api.ErrOrder}, {mf, api.ErrOrder}, {sba(-1), api.ErrAddress}, {sba(8), api.ErrAddress}, {eua(8), api.ErrAddress}, {ra(8, 0xC9), api.ErrAddress}}
	for _, b := range bad {
		for _, err := range []api.Errno{api.OK, api.ErrShort, api.ErrAttr} {
			first := []api.Order{b.o, sba(1), data(0xC9), ic}
			middle := []api.Order{data(0xC1, 0xC2), b.o, data(0xC9), ic, mf}
			last := []api.Order{data(0xC1), sba(3), ic, data(0xC3), b.o}
			for _, deeds := range [][]deed{
				{
					{"W, the first", "....H.", 2, write(api.CmdW, 7, first...), "....H.", 2, failed(b.e)},
					{"W, in the middle", "....H.", 2, write(api.CmdW, 7, middle...), "..ABH.", 2, failed(b.e)},
					{"W, the last", "....H.", 2, write(api.CmdW, 7, last...), "..ACH.", 3, failed(b.e)},
				},
				{
					{"EW, the first", ")A(B]C", 2, write(api.CmdEW, 7, first...), "......", 0, failed(b.e)},
					{"EW, in the middle", ")A(B]C", 2, write(api.CmdEW, 7, middle...), "AB....", 0, failed(b.e)},
					{"EW, the last", ")A(B]CDE", 2, write(api.CmdEW, 7, last...), "A..C..", 3, failed(b.e)},
				},
				{
					{"EWA, the first", ")A(B]C", 2, write(api.CmdEWA, 7, first...), "........", 0, failed(b.e)},
					{"EWA, in the middle", ")A(B]CDE", 2, write(api.CmdEWA, 7, middle...), "AB......", 0, failed(b.e)},
					{"EWA, the last", ")A(B]C", 2, write(api.CmdEWA, 7, last...), "A..C....", 3, failed(b.e)},
				},
			} {
				for i := range deeds {
					// Paint's error is told, whatever the command's is.
					deeds[i].c.Err = err
				}
				wantDeeds(t, deeds)
				for i := range deeds {
					deeds[i].c = wsf(read(2), within(deeds[i].c), reset(0x80), within(write(api.CmdEW, 7, data(0xC9))))
				}
				wantDeeds(t, deeds)
			}
		}
	}
}

func TestErrBehindOrders(t *testing.T) { // P18.1 and P18.2: all orders are done, and the command's Err is told
	for _, e := range []api.Errno{api.ErrShort, api.ErrOrder, api.ErrAttr, api.ErrStruct, api.Errno(-1), api.Errno(99)} {
		wantDeeds(t, []deed{
			{"W", ")A(B]C", 3, behind(write(api.CmdW, 7, data(0xC4), sf(1)), e), "(A(D)C", 3, failed(e)},
			{"W without orders", ")A(B]C", 3, behind(write(api.CmdW, 7), e), "(A(B[C", 3, failed(e)},
			{"EW", ")A(B]C", 3, behind(write(api.CmdEW, 7, data(0xC4), sf(1)), e), "D)....", 0, failed(e)},
			{"EWA", ")A(B]C", 3, behind(write(api.CmdEWA, 7, data(0xC4), sba(4), ic), e), "D.......", 4, failed(e)},
			{"EAU has none", ")A(B]C", 3, behind(only(api.CmdEAU), e), "(.(.]C", 1, restored},
			{"RB has none", ")A(B]C", 3, behind(only(api.CmdRB), e), ")A(B]C", 3, replies(0xF2)},
			{"another kind", ")A(B]C", 3, behind(only(0x01), e), ")A(B]C", 3, failed(api.ErrCommand)},
		})
	}
}

func TestPlaneToldEarlier(t *testing.T) { // P18.1: behind an erase, or another size, it is no longer the screen's, and stays as it was
	anew := []command.Command{
		write(api.CmdEW, 1, data(0xC9)), write(api.CmdEWA, 1, data(0xC9)), wsf(reset(0)), wsf(reset(0x80)), wsf(reset(1)), wsf(within(only(api.CmdEW))), wsf(within(only(api.CmdEWA))),
		write(api.CmdEW, 0, none), write(api.CmdEWA, 0, none), behind(wsf(reset(0)), api.ErrStruct), wsf(reset(0x80), within(only(0))),
	}
	for _, before := range []string{")A(B]C", ")A(B]CDE"} {
		for _, c := range anew {
			s := laid(t, before, 2)
			was := s.Plane()
			s.Do(c)
			wantGone(t, s, was, before)
		}
		s := laid(t, before, 2)
		was := s.Plane()
		s.Clear()
		wantGone(t, s, was, before)
		for _, c := range []command.Command{write(api.CmdW, 7, data(0xC9)), only(api.CmdEAU), only(api.CmdRB), wsf(), wsf(within(write(api.CmdW, 7, none))), only(0)} {
			s := laid(t, before, 2)
			was := s.Plane()
			s.Do(c)
			if s.Plane() != was {
				t.Errorf("%v: the plane is a new one", c)
			}
		}
	}
}

// wantGone tells whether a plane that was told, with the cursor at 2, is still the screen's, or isn't as it was.
func wantGone(t *testing.T, s *Screen, was *plane.Plane, before string) {
	t.Helper()
	s.Do(write(api.CmdW, 7, ra(0, 0xC9), sba(1), ic))
	s.Do(only(api.CmdEAU))
	if s.Plane() == was {
		t.Errorf("%q: the plane is no new one", before)
	}
	if drawn(was) != before || was.Cursor() != 2 || was.Len() != len(before) {
		t.Errorf("%q: %q, the cursor at %d", before, drawn(was), was.Cursor())
	}
	now := s.Plane().Clone()
	was.Clear()
	was.Set(1, api.Cell{Byte: 0xC8})
	was.Point(5)
	wantPlane(t, s.Plane(), now, "behind a turn of the plane that was told")
}

func TestPlaneIsTheScreens(t *testing.T) { // P18.1: what is turned on it counts for the commands behind
	s := laid(t, "......", 0)
	s.Plane().Set(1, api.Cell{Start: true, Byte: 1})
	s.Plane().Set(2, api.Cell{Byte: 0xC2})
	s.Plane().Point(4)
	if got := s.Do(write(api.CmdW, 1, data(0xC3))); got != nothing || drawn(s.Plane()) != ".(B.C." {
		t.Errorf("W: %v %q", got, drawn(s.Plane()))
	}
	if got := s.Do(only(api.CmdEAU)); got != restored || drawn(s.Plane()) != ".(...." || s.Plane().Cursor() != 2 {
		t.Errorf("EAU: %v %q, %d", got, drawn(s.Plane()), s.Plane().Cursor())
	}
}

func TestOther(t *testing.T) { // P18.1: behind each thing that may choose a size; with both sizes alike, too
	for _, other := range []api.Size{eight, six} {
		s := sized(t, six, other)
		for _, d := range []struct {
			c    command.Command
			want bool
		}{
			{write(api.CmdW, 7, data(0xC1)), false},
			{only(api.CmdEWA), true}, {only(api.CmdEWA), true}, {only(api.CmdW), true}, {only(api.CmdEAU), true}, {only(api.CmdRB), true}, {only(api.CmdRM), true}, {only(api.CmdRMA), true}, {wsf(), true}, {wsf(read(2)), true}, {only(0x05), true},
			{only(api.CmdEW), false}, {only(api.CmdEW), false}, {only(api.CmdW), false}, {only(api.CmdEAU), false}, {only(api.CmdRB), false}, {wsf(), false}, {only(0x0D), false},
			{wsf(reset(0x80)), true}, {wsf(reset(0x80)), true}, {wsf(reset(0)), false}, {wsf(reset(0)), false}, {wsf(reset(1)), true}, {wsf(reset(0xFF)), true},
			{wsf(reset(0), reset(0x80)), true}, {wsf(reset(0x80), reset(0)), false},
			{wsf(within(only(api.CmdEWA))), true}, {wsf(within(only(api.CmdW))), true}, {wsf(within(only(api.CmdEAU))), true}, {wsf(within(only(api.CmdEW))), false}, {wsf(within(only(api.CmdW))), false},
			{write(api.CmdEWA, 0, none), true}, {write(api.CmdEW, 0, none), false}, {behind(only(api.CmdEWA), api.ErrShort), true}, {behind(only(api.CmdEW), api.ErrShort), false},
			{behind(wsf(reset(0x80)), api.ErrStruct), true}, {wsf(within(only(0)), reset(0)), true}, {wsf(reset(0), within(only(0)), reset(0x80)), false},
			{wsf(within(wsf(reset(0x80)))), true}, {wsf(within(wsf(within(only(api.CmdEW))))), false},
			{wsf(within(write(api.CmdEWA, 0, none))), true},
		} {
			s.Do(d.c)
			size := map[bool]api.Size{false: six, true: other}[d.want]
			if s.Other() != d.want || s.Plane().Size() != size {
				t.Errorf("%v: %v, %v", d.c, s.Other(), s.Plane().Size())
			}
		}
		s.Clear()
		if s.Other() || s.Plane().Size() != six {
			t.Errorf("Clear: %v, %v", s.Other(), s.Plane().Size())
		}
	}
}

func TestClear(t *testing.T) { // P18.1
	for _, before := range []string{"......", "ABCDEF", ")A(B]C", "........", "ABCDEFGH", ")A(B]CDE"} {
		for cursor := range len(before) {
			s := laid(t, before, cursor)
			for range 2 {
				was := s.Plane()
				s.Clear()
				if p := s.Plane(); p == was || drawn(p) != "......" || p.Cursor() != 0 || p.Size() != six || s.Other() {
					t.Errorf("%q: %q, %d, %v", before, drawn(p), p.Cursor(), p.Size())
				}
			}
			if got := s.Do(write(api.CmdEWA, 6, sba(7), data(0xC1))); got != both || drawn(s.Plane()) != ".......A" {
				t.Errorf("EWA behind Clear: %v %q", got, drawn(s.Plane()))
			}
		}
	}
}

func TestClone(t *testing.T) { // P18.1: each goes its own way
	eachScreen(t, func(r *rand.Rand, s *Screen, plain, other api.Size) {
		c := s.Clone()
		if c == s || c.Plane() == s.Plane() {
			t.Fatal("a clone is the same thing")
		}
		was := formOf(s, plain, other)
		wantForm(t, c, was, "a clone")
		for range 3 {
			hold(t, c, plain, other, someCommand(r, c.Plane().Len(), 2))
		}
		c.Plane().Set(0, api.Cell{Byte: 0xC9})
		wantForm(t, s, was, "the clone went its way")
		was = formOf(c, plain, other)
		for range 3 {
			hold(t, s, plain, other, someCommand(r, s.Plane().Len(), 2))
		}
		s.Clear()
		s.Plane().Point(s.Plane().Len() - 1)
		wantForm(t, c, was, "it went its own way")
	})
}

func TestCommands(t *testing.T) { // P18.1: all commands, in every order of calls, held against the chapter's form
	eachScreen(t, func(r *rand.Rand, s *Screen, plain, other api.Size) {
		for range 12 {
			hold(t, s, plain, other, someCommand(r, s.Plane().Len(), r.Intn(4)))
			switch r.Intn(12) {
			case 0:
				s.Clear()
				if s.Other() || s.Plane().Size() != plain {
					t.Fatal("Clear")
				}
			case 1:
				s = s.Clone()
			case 2:
				strew(r, s.Plane(), func(int) bool { return r.Intn(3) == 0 })
			}
		}
	})
}

func TestEachTwoCommands(t *testing.T) { // P18.1: each kind behind each
	r := rand.New(rand.NewSource(62))
	for _, first := range commands {
		for _, second := range commands {
			for range 200 {
				s := sized(t, sizes[r.Intn(len(sizes))], eight)
				plain := s.Plane().Size()
				a, b := someCommand(r, 9, 2), someCommand(r, 9, 2)
				a.Kind, b.Kind = first, second
				hold(t, s, plain, eight, a)
				hold(t, s, plain, eight, b)
			}
		}
	}
}

func TestLarge(t *testing.T) { // P18.1: on screens as they are
	r := rand.New(rand.NewSource(63))
	for i, plain := range great {
		other := great[(i+1)%len(great)]
		s := sized(t, plain, other)
		for range 60 {
			strew(r, s.Plane(), func(int) bool { return r.Intn(20) == 0 })
			for range 3 {
				hold(t, s, plain, other, someCommand(r, s.Plane().Len(), 2))
			}
		}
	}
}

func TestHandedIn(t *testing.T) { // P18.1: a command isn't changed, the memory behind its lists neither, and it isn't kept
	r := rand.New(rand.NewSource(64))
	for range 400 {
		s := sized(t, six, eight)
		strew(r, s.Plane(), func(int) bool { return r.Intn(3) == 0 })
		c := someCommand(r, 6, 3)
		c.Orders = append(c.Orders, someOrder(r, 6))[:len(c.Orders)]
		c.Fields = append(c.Fields, within(someCommand(r, 6, 1)))[:len(c.Fields)]
		was := own(command.Command{Kind: c.Kind, WCC: c.WCC, Err: c.Err, Orders: c.Orders[:len(c.Orders)+1], Fields: c.Fields[:len(c.Fields)+1]})
		s.Do(c)
		now := c
		now.Orders, now.Fields = c.Orders[:len(c.Orders)+1], c.Fields[:len(c.Fields)+1]
		if !command.Same(now, was) {
			t.Fatalf("%v, not %v", now, was)
		}
		is := formOf(s, six, eight)
		overwrite(now)
		wantForm(t, s, is, "written over")
	}
}

// overwrite writes over all memory of a command.
func overwrite(c command.Command) {
	for i := range c.Orders {
		for j := range c.Orders[i].Data {
			c.Orders[i].Data[j] = 0xEE
		}
		for j := range c.Orders[i].Pairs {
			c.Orders[i].Pairs[j] = api.Pair{Type: 0xEE, Value: 0xEE}
		}
		c.Orders[i] = api.Order{Kind: 0xEE}
	}
	for i := range c.Fields {
		overwrite(c.Fields[i].Inner)
		c.Fields[i] = command.Field{ID: 0xEE}
	}
}

func TestNeverMade(t *testing.T) { // P1: a screen that was never made has no cells, and none panics
	for _, make := range []func() *Screen{func() *Screen { return nil }, func() *Screen { return &Screen{} }} {
		for _, d := range []struct {
			c    command.Command
			want Result
		}{
			{only(0), failed(api.ErrCommand)}, {only(api.CmdW), failed(api.ErrAddress)}, {write(api.CmdW, 7, data(0xC1)), failed(api.ErrAddress)},
			{write(api.CmdEW, 7), failed(api.ErrAddress)}, {write(api.CmdEWA, 7, ic), failed(api.ErrAddress)},
			{only(api.CmdEAU), restored}, {only(api.CmdRB), replies(0xF2)}, {only(api.CmdRM), replies(0xF6)}, {only(api.CmdRMA), replies(0x6E)},
			{wsf(), nothing}, {wsf(read(2), reset(0)), replies(2)}, {wsf(reset(0x80), within(only(api.CmdEAU))), restored}, {wsf(within(only(api.CmdW))), failed(api.ErrAddress)},
		} {
			s := make()
			if got := s.Do(d.c); got != d.want || s.Plane().Len() != 0 || s.Plane().Cursor() != 0 {
				t.Errorf("%v: %v, not %v", d.c, got, d.want)
			}
		}
		s := make()
		if s.Other() || s.Plane().Len() != 0 || s.Clone().Other() || s.Clone().Plane().Len() != 0 {
			t.Error("at first")
		}
		s.Clear()
		if s.Other() || s.Plane().Len() != 0 {
			t.Error("Clear")
		}
		if got := s.Run(nil); got != failed(api.ErrCommand) {
			t.Errorf("Run of nothing: %v", got)
		}
		if got := s.Run([]byte{0xF5, 0xC3}); got != failed(api.ErrAddress) {
			t.Errorf("Run of EW: %v", got)
		}
	}
}
