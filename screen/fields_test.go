package screen

import (
	"testing"

	"greenscreen/api"
	"greenscreen/command"
)

func TestStructured(t *testing.T) { // P18.1: WSF
	wantDeeds(t, []deed{
		{"no fields", ")A(B]C", 2, wsf(), ")A(B]C", 2, nothing},
		{"no fields, and an error", ")A(B]C", 2, behind(wsf(), api.ErrStruct), ")A(B]C", 2, failed(api.ErrStruct)},
		{"a WCC and orders aren't WSF's", ")A(B]C", 2, write(api.CmdWSF, 7, data(0xC9), none), ")A(B]C", 2, nothing},
		{"a read", ")A(B]C", 2, wsf(read(2)), ")A(B]C", 2, replies(2)},
		{"a read, and an error", ")A(B]C", 2, behind(wsf(read(2)), api.ErrStruct), ")A(B]C", 2, failed(api.ErrStruct)},
		{"two reads", ")A(B]C", 2, wsf(read(0xF6), read(2)), ")A(B]C", 2, replies(0xF6)},
		{"three reads", ")A(B]C", 2, wsf(read(0x6E), read(0xF2), read(2)), ")A(B]C", 2, replies(0x6E)},
		{"a read of an Op that is none", ")A(B]C", 2, wsf(read(0x99), read(2)), ")A(B]C", 2, replies(0x99)},
		{"a read of Op 0 is no Reply", ")A(B]C", 2, wsf(read(0), read(2)), ")A(B]C", 2, replies(2)},
		{"reads around a write", ")A(B]C", 2, wsf(read(0xF2), within(write(api.CmdW, 6, data(0xC4))), read(2)), ")ADB]C", 2, Result{Reply: 0xF2, Restore: true, Alarm: true}},
		{"a read behind a write", ")A(B]C", 2, wsf(within(only(api.CmdEAU)), read(2)), "(.(.]C", 1, Result{Reply: 2, Restore: true}},
		{"a read has no Inner", ")A(B]C", 2, wsf(command.Field{ID: 1, Op: 2, Inner: write(api.CmdEW, 7, none)}), ")A(B]C", 2, replies(2)},
		{"reset", ")A(B]C", 2, wsf(reset(0)), "......", 0, nothing},
		{"reset of the other size", ")A(B]CDE", 2, wsf(reset(0)), "......", 0, nothing},
		{"reset to the other size", ")A(B]C", 2, wsf(reset(0x80)), "........", 0, nothing},
		{"reset of the other size to it", ")A(B]CDE", 2, wsf(reset(0x80)), "........", 0, nothing},
		{"reset of an Op that is none", ")A(B]C", 2, wsf(reset(1)), "........", 0, nothing},
		{"a reset has no Inner", ")A(B]C", 2, wsf(command.Field{ID: 3, Inner: write(api.CmdEWA, 7, none)}), "......", 0, nothing},
		{"reset there and back", ")A(B]C", 2, wsf(reset(0x80), reset(0)), "......", 0, nothing},
		{"a write behind a reset", ")A(B]C", 2, wsf(reset(0x80), within(write(api.CmdW, 4, sba(7), ic, data(0xC1)))), ".......A", 7, alarmed},
		{"a reset behind a write", ")A(B]C", 2, wsf(within(write(api.CmdW, 4, sba(5), data(0xC1))), reset(0x80)), "........", 0, alarmed},
	})
}

func TestWritesWithin(t *testing.T) { // P18.1: a write of each kind as its Inner
	wantDeeds(t, []deed{
		{"W", ")A(B]C", 3, wsf(within(write(api.CmdW, 0, data(0xC4, 0xC5)))), ")A(DEC", 3, nothing},
		{"W, clean", ")A(B]C", 3, wsf(within(write(api.CmdW, 3, data(0xC4)))), "(A(D[C", 3, restored},
		{"W behind W", ")A(B]C", 3, wsf(within(write(api.CmdW, 4, sba(5), ic)), within(write(api.CmdW, 0, data(0xC4, 0xC5)))), "EA(B]D", 5, alarmed},
		{"EW", ")A(B]C", 3, wsf(within(write(api.CmdEW, 2, data(0xC4, 0xC5)))), "DE....", 0, restored},
		{"EW on the other size", ")A(B]CDE", 3, wsf(within(write(api.CmdEW, 4, data(0xC4, 0xC5)))), "DE....", 0, alarmed},
		{"EWA", ")A(B]C", 3, wsf(within(write(api.CmdEWA, 6, data(0xC4, 0xC5)))), "DE......", 0, both},
		{"EAU", ")A(B]C", 3, wsf(within(only(api.CmdEAU))), "(.(.]C", 1, restored},
		{"RB", ")A(B]C", 3, wsf(within(only(api.CmdRB))), ")A(B]C", 3, nothing},
		{"RB ahead of a read", ")A(B]C", 3, wsf(within(only(api.CmdRB)), read(2)), ")A(B]C", 3, replies(2)},
		{"WSF without fields", ")A(B]C", 3, wsf(within(wsf())), ")A(B]C", 3, nothing},
		{"WSF", ")A(B]C", 3, wsf(within(wsf(reset(0x80), within(write(api.CmdW, 6, data(0xC4)))))), "D.......", 0, both},
		{"WSF with a read, whose Reply doesn't count", ")A(B]C", 3, wsf(within(wsf(read(2))), read(0xF6), within(wsf(read(0xF2)))), ")A(B]C", 3, replies(0xF6)},
		{"WSF within WSF", ")A(B]C", 3, wsf(within(wsf(within(wsf(within(write(api.CmdEW, 4, data(0xC4))))), within(write(api.CmdW, 2, sba(3), data(0xC5)))))), "D..E..", 0, both},
		{"none", ")A(B]C", 3, wsf(within(command.Command{})), ")A(B]C", 3, failed(api.ErrCommand)},
		{"one restores, one alarms", ")A(B]C", 3, wsf(within(write(api.CmdW, 2)), within(write(api.CmdW, 4)), within(write(api.CmdW, 0))), ")A(B]C", 3, both},
		{"one alarms, one restores", ")A(B]C", 3, wsf(within(write(api.CmdW, 4)), within(write(api.CmdW, 0)), within(only(api.CmdEAU))), "(.(.]C", 1, both},
		{"an Op is no write's", ")A(B]C", 3, wsf(command.Field{ID: 0x40, Op: 0x80, Inner: write(api.CmdW, 0, data(0xC4))}), ")A(D]C", 3, nothing},
	})
}

func TestEachID(t *testing.T) { // P18.1: whatever ID isn't 1 or 3 is a write
	for id := range 256 {
		f := command.Field{ID: byte(id), Op: 2, Inner: write(api.CmdEW, 2, data(0xC4))}
		d := deed{"a write", ")A(B]C", 3, wsf(f), "D.....", 0, restored}
		switch id {
		case 1:
			d = deed{"a read", ")A(B]C", 3, wsf(f), ")A(B]C", 3, replies(2)}
		case 3:
			d = deed{"a reset", ")A(B]C", 3, wsf(f), "........", 0, nothing}
		}
		wantDeeds(t, []deed{d})
		if id != 1 && id != 3 {
			f.Inner = wsf(reset(0x80), read(2), within(write(api.CmdW, 4)))
			wantDeeds(t, []deed{{"fields of its own", ")A(B]C", 3, wsf(f, read(0xF2)), "........", 0, Result{Reply: 0xF2, Alarm: true}}})
		}
	}
}

func TestErrorsWithin(t *testing.T) { // P18.1 and P18.2: the first one ends all; what was done stays
	bad := write(api.CmdW, 7, data(0xC4), sba(99), data(0xC5))
	short := behind(write(api.CmdW, 7, data(0xC4)), api.ErrShort)
	wantDeeds(t, []deed{
		{"its orders can't be done", ")A(B]C", 3, wsf(within(bad)), "(A(D[C", 3, failed(api.ErrAddress)},
		{"its orders are broken", ")A(B]C", 3, wsf(within(short)), "(A(D[C", 3, failed(api.ErrShort)},
		{"fields ahead", ")A(B]C", 3, wsf(read(2), reset(0x80), within(write(api.CmdW, 6, sba(2), ic)), within(bad)), "..D.....", 2, failed(api.ErrAddress)},
		{"fields behind", ")A(B]C", 3, wsf(within(bad), read(2), reset(0x80), within(write(api.CmdEW, 6))), "(A(D[C", 3, failed(api.ErrAddress)},
		{"the first one is told", ")A(B]C", 3, wsf(within(short), within(bad), within(only(0))), "(A(D[C", 3, failed(api.ErrShort)},
		{"ahead of the command's own", ")A(B]C", 3, behind(wsf(within(short)), api.ErrStruct), "(A(D[C", 3, failed(api.ErrShort)},
		{"the command's own, behind all fields", ")A(B]C", 3, behind(wsf(read(2), within(write(api.CmdW, 6, data(0xC4))), within(only(api.CmdEAU))), api.ErrStruct), "(.(.]C", 1, failed(api.ErrStruct)},
		{"a kind that is none", ")A(B]C", 3, wsf(within(write(api.CmdW, 6, data(0xC4))), within(only(0xF7)), reset(0)), ")A(D]C", 3, failed(api.ErrCommand)},
		{"within fields within fields", ")A(B]C", 3, wsf(read(2), within(wsf(within(write(api.CmdW, 6, sba(1), ic)), within(bad), reset(0))), reset(0x80)), "(D(B[C", 1, failed(api.ErrAddress)},
		{"behind fields within fields", ")A(B]C", 3, wsf(read(2), within(behind(wsf(within(write(api.CmdW, 6, data(0xC4)))), api.ErrStruct)), reset(0x80)), ")A(D]C", 3, failed(api.ErrStruct)},
		{"behind no fields within fields", ")A(B]C", 3, wsf(within(behind(wsf(), api.ErrForm)), reset(0x80)), ")A(B]C", 3, failed(api.ErrForm)},
		{"within fields, ahead of their own and the command's", ")A(B]C", 3, behind(wsf(within(behind(wsf(within(short)), api.ErrForm))), api.ErrStruct), "(A(D[C", 3, failed(api.ErrShort)},
	})
}

func TestFieldsManyDeep(t *testing.T) { // P1: fields within fields, as deep as there is room
	const deep = 300000
	for _, last := range []struct {
		c     command.Command
		want  Result
		after string
	}{
		{write(api.CmdW, 6, data(0xC1)), both, "ABCABC"},
		{write(api.CmdW, 6, data(0xC1), none), failed(api.ErrOrder), "A....."},
		{only(0), failed(api.ErrCommand), "......"},
		{behind(wsf(), api.ErrShort), failed(api.ErrShort), "......"},
	} {
		c := last.c
		for i := range deep {
			fs := []command.Field{within(c)}
			// What stands behind in fields around is done when the ones within are.
			if i == 7 {
				fs = append(fs, within(write(api.CmdW, 0, sba(1), data(0xC2, 0xC3))))
			}
			if i == deep-1 {
				fs = append(fs, within(write(api.CmdW, 0, sba(3), data(0xC1, 0xC2, 0xC3))))
			}
			c = wsf(fs...)
		}
		s := laid(t, "......", 0)
		if got := s.Do(c); got != last.want || drawn(s.Plane()) != last.after {
			t.Errorf("%v, %q; not %v, %q", got, drawn(s.Plane()), last.want, last.after)
		}
	}
}

func TestFieldsTwice(t *testing.T) { // P18.1: the same list, one behind the other, is done twice
	again := wsf(within(write(api.CmdW, 0, data(0xC1), ic)))
	wantDeeds(t, []deed{
		{"side by side", "......", 0, wsf(within(again), within(again), within(again)), "AAA...", 3, nothing},
		{"at two depths", "......", 0, wsf(within(wsf(within(again))), within(again)), "AA....", 2, nothing},
	})
}

func TestFieldsRing(t *testing.T) { // P1: a list that stands within itself isn't begun anew while it is being done
	fs := []command.Field{read(2), within(write(api.CmdW, 2, data(0xC1), ic)), {}, within(write(api.CmdW, 4, data(0xC2), ic))}
	ring := wsf(fs...)
	fs[2] = within(behind(wsf(fs...), api.ErrForm))
	want := Result{Reply: 2, Restore: true, Alarm: true}
	wantDeeds(t, []deed{{"a ring", "......", 0, ring, "AB....", 2, want}})
	fs[2] = within(wsf(within(wsf(fs...)), within(write(api.CmdW, 0, data(0xC3), ic))))
	wantDeeds(t, []deed{
		{"a ring of two", "......", 0, ring, "ACB...", 3, want},
		{"twice", "......", 0, wsf(within(ring), within(ring)), "ACBACB", 0, both},
	})
	// Parts of one list, each within the next.
	fs[2] = within(wsf(fs[1:3]...))
	wantDeeds(t, []deed{{"a ring through parts", "......", 0, ring, "AAB...", 3, want}})
	fs[2] = within(wsf(fs[:3]...))
	wantDeeds(t, []deed{{"a ring through a part that begins where the list does", "......", 0, ring, "AAB...", 3, want}})
}
