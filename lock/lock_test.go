package lock

import (
	"math"
	"testing"

	"greenscreen/api"
)

func TestExample(t *testing.T) { // P21.1
	var l Lock
	l.Open()
	if e := l.Send(); e != api.OK || l.State() != Sent {
		t.Errorf("Send: %d, %d", e, l.State())
	}
	if e := l.Send(); e != api.ErrLocked || l.State() != Sent {
		t.Errorf("Send again: %d, %d", e, l.State())
	}
	if !l.Restore() || l.State() != Ready {
		t.Errorf("Restore: %d", l.State())
	}
}

func TestStates(t *testing.T) { // P21.1: their numbers
	if got := [...]int{Off, Ready, Sent, Wrong}; got != [...]int{0, 1, 2, 3} {
		t.Errorf("%v", got)
	}
}

func TestAtFirst(t *testing.T) { // P21.1: the zero one is Off
	wantForm(t, &Lock{}, &form{}, "the zero lock")
	wantForm(t, new(Lock), &form{}, "a new lock")
}

// come are ways in which a lock may have come to a state, with how many turns.
var come = []struct {
	name string
	do   func(l *Lock)
	is   form
}{
	{"Off at first", func(l *Lock) {}, form{0, 0, 0}},
	{"Off, shut at first", func(l *Lock) { l.Shut() }, form{0, 0, 0}},
	{"Off, from Ready", func(l *Lock) { l.Open(); l.Shut() }, form{0, 0, 2}},
	{"Off, from Sent", func(l *Lock) { l.Open(); l.Send(); l.Shut() }, form{0, 0, 3}},
	{"Off, from Wrong", func(l *Lock) { l.Open(); l.Fail(42); l.Shut() }, form{0, 0, 3}},
	{"Ready, from Off", func(l *Lock) { l.Open() }, form{1, 0, 1}},
	{"Ready, opened twice", func(l *Lock) { l.Open(); l.Open() }, form{1, 0, 1}},
	{"Ready, restored from Sent", func(l *Lock) { l.Open(); l.Send(); l.Restore() }, form{1, 0, 3}},
	{"Ready, opened from Sent", func(l *Lock) { l.Open(); l.Send(); l.Open() }, form{1, 0, 3}},
	{"Ready, reset from Wrong", func(l *Lock) { l.Open(); l.Fail(41); l.Reset() }, form{1, 0, 3}},
	{"Ready, restored from Wrong", func(l *Lock) { l.Open(); l.Fail(41); l.Restore() }, form{1, 0, 3}},
	{"Ready, opened from Wrong", func(l *Lock) { l.Open(); l.Fail(41); l.Open() }, form{1, 0, 3}},
	{"Sent", func(l *Lock) { l.Open(); l.Send() }, form{2, 0, 2}},
	{"Sent, behind Wrong", func(l *Lock) { l.Open(); l.Fail(41); l.Reset(); l.Send() }, form{2, 0, 4}},
	{"Wrong, protected", func(l *Lock) { l.Open(); l.Fail(41) }, form{3, 41, 2}},
	{"Wrong, numeric", func(l *Lock) { l.Open(); l.Fail(42) }, form{3, 42, 2}},
	{"Wrong, over", func(l *Lock) { l.Open(); l.Fail(43) }, form{3, 43, 2}},
	{"Wrong, another error", func(l *Lock) { l.Open(); l.Fail(21) }, form{3, 21, 2}},
	{"Wrong, behind Sent", func(l *Lock) { l.Open(); l.Send(); l.Restore(); l.Fail(43) }, form{3, 43, 4}},
	{"Wrong, behind another error", func(l *Lock) { l.Open(); l.Fail(41); l.Reset(); l.Fail(42) }, form{3, 42, 4}},
}

func TestEachCall(t *testing.T) { // P21.1: each call in each state, however the lock came to it
	for _, from := range come {
		for _, c := range calls() {
			var l Lock
			from.do(&l)
			f := from.is
			wantForm(t, &l, &f, from.name)
			want := f.do(c)
			if got := c.do(&l); got != want {
				t.Errorf("%s, %s: %d, not %d", from.name, c.name, got, want)
			}
			wantForm(t, &l, &f, from.name+", "+c.name)
		}
	}
}

func TestEachCallWrittenOut(t *testing.T) { // P21.1
	var l Lock
	for _, c := range []struct {
		name  string
		do    func(l *Lock) int
		told  int
		state int
		text  string
		turns int
	}{
		{"Send in Off", func(l *Lock) int { return int(l.Send()) }, 40, Off, "X", 0},
		{"Fail in Off", func(l *Lock) int { return int(l.Fail(41)) }, 40, Off, "X", 0},
		{"Fail OK in Off", func(l *Lock) int { return int(l.Fail(0)) }, 40, Off, "X", 0},
		{"Reset in Off", func(l *Lock) int { return yes(l.Reset()) }, 0, Off, "X", 0},
		{"Restore in Off", func(l *Lock) int { return yes(l.Restore()) }, 0, Off, "X", 0},
		{"Open", func(l *Lock) int { l.Open(); return 0 }, 0, Ready, "", 1},
		{"Reset in Ready", func(l *Lock) int { return yes(l.Reset()) }, 0, Ready, "", 1},
		{"Restore in Ready", func(l *Lock) int { return yes(l.Restore()) }, 0, Ready, "", 1},
		{"Fail OK in Ready", func(l *Lock) int { return int(l.Fail(0)) }, 0, Ready, "", 1},
		{"Fail in Ready", func(l *Lock) int { return int(l.Fail(41)) }, 41, Wrong, "X PROTECTED", 2},
		{"Fail OK in Wrong", func(l *Lock) int { return int(l.Fail(0)) }, 40, Wrong, "X PROTECTED", 2},
		{"Fail in Wrong", func(l *Lock) int { return int(l.Fail(42)) }, 40, Wrong, "X PROTECTED", 2},
		{"Send in Wrong", func(l *Lock) int { return int(l.Send()) }, 40, Wrong, "X PROTECTED", 2},
		{"Reset in Wrong", func(l *Lock) int { return yes(l.Reset()) }, 1, Ready, "", 3},
		{"Fail again", func(l *Lock) int { return int(l.Fail(42)) }, 42, Wrong, "X NUMERIC", 4},
		{"Restore in Wrong", func(l *Lock) int { return yes(l.Restore()) }, 1, Ready, "", 5},
		{"Fail a third time", func(l *Lock) int { return int(l.Fail(43)) }, 43, Wrong, "X OVERFLOW", 6},
		{"Open in Wrong", func(l *Lock) int { l.Open(); return 0 }, 0, Ready, "", 7},
		{"Send in Ready", func(l *Lock) int { return int(l.Send()) }, 0, Sent, "X SYSTEM", 8},
		{"Send in Sent", func(l *Lock) int { return int(l.Send()) }, 40, Sent, "X SYSTEM", 8},
		{"Fail in Sent", func(l *Lock) int { return int(l.Fail(41)) }, 40, Sent, "X SYSTEM", 8},
		{"Fail OK in Sent", func(l *Lock) int { return int(l.Fail(0)) }, 40, Sent, "X SYSTEM", 8},
		{"Reset in Sent", func(l *Lock) int { return yes(l.Reset()) }, 0, Sent, "X SYSTEM", 8},
		{"Restore in Sent", func(l *Lock) int { return yes(l.Restore()) }, 1, Ready, "", 9},
		{"Send again", func(l *Lock) int { return int(l.Send()) }, 0, Sent, "X SYSTEM", 10},
		{"Open in Sent", func(l *Lock) int { l.Open(); return 0 }, 0, Ready, "", 11},
		{"Open in Ready", func(l *Lock) int { l.Open(); return 0 }, 0, Ready, "", 11},
		{"Fail a fourth time", func(l *Lock) int { return int(l.Fail(50)) }, 50, Wrong, "X ERROR", 12},
		{"Shut in Wrong", func(l *Lock) int { l.Shut(); return 0 }, 0, Off, "X", 13},
		{"Shut in Off", func(l *Lock) int { l.Shut(); return 0 }, 0, Off, "X", 13},
	} {
		if told := c.do(&l); told != c.told || l.State() != c.state || l.Text() != c.text || l.Turns() != c.turns {
			t.Errorf("%s: %d, state %d, %q, turns %d; not %d, %d, %q, %d", c.name, told, l.State(), l.Text(), l.Turns(), c.told, c.state, c.text, c.turns)
		}
	}
}

func TestRows(t *testing.T) { // P21.1: each row of up to five calls, in every order
	eachRow(5, func(row []call, _, is *Lock, told int) {
		var f form
		want := 0
		for _, c := range row {
			want = f.do(c)
		}
		if told != want {
			t.Fatalf("%s: %d, not %d", named(row), told, want)
		}
		wantForm(t, is, &f, named(row))
	})
}

func TestLongRows(t *testing.T) { // P21.1: a lock that goes on for long
	all := calls()
	var l Lock
	var f form
	for i := range 100000 {
		c := all[(i*i+i/7+i/1000)%len(all)]
		want := f.do(c)
		if told := c.do(&l); told != want {
			t.Fatalf("call %d, %s: %d, not %d", i, c.name, told, want)
		}
		wantForm(t, &l, &f, c.name)
	}
	if f.turns < 10000 {
		t.Errorf("it was turned %d times", f.turns)
	}
}

func TestSentTwice(t *testing.T) { // P21.2: between two things that are sent it was Ready again, by Restore or Open
	seen := 0
	eachRow(5, func(row []call, _, _ *Lock, _ int) {
		var l Lock
		back := true
		for _, c := range row {
			told := c.do(&l)
			switch {
			case c.name == "Send" && told == int(api.OK):
				if !back {
					t.Fatalf("%s: something was sent that isn't answered", named(row))
				}
				back = false
				seen++
			case c.name == "Restore" || c.name == "Open":
				back = back || l.State() == Ready
			}
		}
	})
	if seen == 0 {
		t.Error("nothing was ever sent")
	}
}

func TestReadyBehindSent(t *testing.T) { // P21.2: nothing but Restore and Open lets it be Ready again; Shut lets it be Off, and nothing but Open helps then
	for _, c := range calls() {
		var l Lock
		l.Open()
		l.Send()
		c.do(&l)
		if ready := c.name == "Restore" || c.name == "Open"; (l.State() == Ready) != ready || (l.Send() == api.OK) != ready {
			t.Errorf("Sent, %s: %d", c.name, l.State())
		}
		l = Lock{}
		l.Open()
		l.Send()
		l.Shut()
		c.do(&l)
		if (l.State() == Ready) != (c.name == "Open") {
			t.Errorf("Shut, %s: %d", c.name, l.State())
		}
	}
}

func TestLockedTurnsNothing(t *testing.T) { // P21.3: state, error and count
	locked := 0
	eachRow(5, func(row []call, was, is *Lock, told int) {
		c := row[len(row)-1]
		if c.name == "Reset" || c.name == "Restore" || told != int(api.ErrLocked) {
			return
		}
		locked++
		if was.State() == Ready || was.State() != is.State() || was.Why() != is.Why() || was.Turns() != is.Turns() || was.Text() != is.Text() {
			t.Fatalf("%s: from %d, %d, %d to %d, %d, %d", named(row), was.State(), was.Why(), was.Turns(), is.State(), is.Why(), is.Turns())
		}
	})
	if locked == 0 {
		t.Error("nothing was ever locked")
	}
}

// allErrors are all numbers of errors that there are, many that there aren't, and the edges of them.
func allErrors() []api.Errno {
	out := []api.Errno{math.MinInt, math.MaxInt, 1 << 32, 1<<32 + 41, -1 << 32}
	for e := -50; e <= 300; e++ {
		out = append(out, api.Errno(e))
	}
	return out
}

func TestFail(t *testing.T) { // P21.1: with each error, those that have no text of their own too
	texts := map[api.Errno]string{api.ErrProtected: "X PROTECTED", api.ErrNumeric: "X NUMERIC", api.ErrOver: "X OVERFLOW"}
	for _, e := range allErrors() {
		var l Lock
		l.Open()
		if told := l.Fail(e); told != e {
			t.Errorf("Fail of %d: %d", e, told)
		}
		text, ok := texts[e]
		switch {
		case e == api.OK:
			wantForm(t, &l, &form{1, 0, 1}, "OK")
			continue
		case !ok:
			text = "X ERROR"
		}
		if l.State() != Wrong || l.Why() != e || l.May() != api.ErrLocked || l.Text() != text || l.Turns() != 2 {
			t.Errorf("behind %d: %d, %d, %d, %q, %d", e, l.State(), l.Why(), l.May(), l.Text(), l.Turns())
		}
		if !l.Reset() || l.State() != Ready || l.Why() != api.OK || l.May() != api.OK || l.Text() != "" || l.Turns() != 3 {
			t.Errorf("behind %d, and Reset: %d, %d, %q, %d", e, l.State(), l.Why(), l.Text(), l.Turns())
		}
	}
}

func TestFailLocked(t *testing.T) { // P21.1 and P21.3: with each error, in each state but Ready
	for _, from := range come {
		if from.is.state == Ready {
			continue
		}
		for _, e := range allErrors() {
			var l Lock
			from.do(&l)
			if told := l.Fail(e); told != api.ErrLocked {
				t.Errorf("%s, Fail of %d: %d", from.name, e, told)
			}
			wantForm(t, &l, &from.is, from.name)
		}
	}
}

func TestTwoLocks(t *testing.T) { // P21.1: each goes its own way
	var a, b Lock
	a.Open()
	b.Open()
	a.Send()
	b.Fail(42)
	wantForm(t, &a, &form{2, 0, 2}, "a")
	wantForm(t, &b, &form{3, 42, 2}, "b")
	a.Shut()
	wantForm(t, &a, &form{0, 0, 3}, "a")
	wantForm(t, &b, &form{3, 42, 2}, "b")
}

func TestNeverMade(t *testing.T) { // P1: a lock that was never made is Off, and stays so
	for _, first := range calls() {
		var l *Lock
		if told := first.do(l); told != first.told[Off] {
			t.Errorf("%s: %d", first.name, told)
		}
		wantForm(t, l, &form{}, first.name)
	}
	for _, e := range allErrors() {
		var l *Lock
		if told := l.Fail(e); told != api.ErrLocked {
			t.Errorf("Fail of %d: %d", e, told)
		}
	}
}
