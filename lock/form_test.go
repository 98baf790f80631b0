package lock

import (
	"testing"

	"greenscreen/api"
)

// call is a call that may turn a lock: what it answers in each state (an error, or 1 for true), and the state behind each.
type call struct {
	name string
	do   func(l *Lock) int
	told [4]int
	to   [4]int
	why  api.Errno // of Fail
}

// yes is 1 for true.
func yes(b bool) int {
	if b {
		return 1
	}
	return 0
}

// fail is Fail of an error, which isn't OK.
func fail(name string, e api.Errno) call {
	return call{"Fail " + name, func(l *Lock) int { return int(l.Fail(e)) }, [4]int{40, int(e), 40, 40}, [4]int{0, 3, 2, 3}, e}
}

// calls are all that may turn a lock, as the chapter has them: Off 0, Ready 1, Sent 2, Wrong 3.
func calls() []call {
	return []call{
		{"Open", func(l *Lock) int { l.Open(); return 0 }, [4]int{}, [4]int{1, 1, 1, 1}, 0},
		{"Shut", func(l *Lock) int { l.Shut(); return 0 }, [4]int{}, [4]int{0, 0, 0, 0}, 0},
		{"Send", func(l *Lock) int { return int(l.Send()) }, [4]int{40, 0, 40, 40}, [4]int{0, 2, 2, 3}, 0},
		{"Fail OK", func(l *Lock) int { return int(l.Fail(api.OK)) }, [4]int{40, 0, 40, 40}, [4]int{0, 1, 2, 3}, 0},
		fail("ErrProtected", api.ErrProtected),
		fail("ErrNumeric", api.ErrNumeric),
		fail("ErrOver", api.ErrOver),
		fail("ErrForm", api.ErrForm),
		{"Reset", func(l *Lock) int { return yes(l.Reset()) }, [4]int{0, 0, 0, 1}, [4]int{0, 1, 2, 1}, 0},
		{"Restore", func(l *Lock) int { return yes(l.Restore()) }, [4]int{0, 0, 1, 1}, [4]int{0, 1, 1, 1}, 0},
	}
}

// form is a lock as the chapter has it.
type form struct {
	state int
	why   api.Errno
	turns int
}

// do does a call, and tells its answer.
func (f *form) do(c call) int {
	told, to := c.told[f.state], c.to[f.state]
	if to == f.state {
		return told
	}
	f.why = api.OK
	if to == 3 {
		f.why = c.why
	}
	f.state = to
	f.turns++
	return told
}

// text is what is said of it.
func (f *form) text() string {
	if f.state != 3 {
		return []string{"X", "", "X SYSTEM"}[f.state]
	}
	switch f.why {
	case 41:
		return "X PROTECTED"
	case 42:
		return "X NUMERIC"
	case 43:
		return "X OVERFLOW"
	}
	return "X ERROR"
}

// may is OK of Ready alone.
func (f *form) may() api.Errno {
	if f.state == 1 {
		return api.OK
	}
	return 40
}

// wantForm tells what of a lock isn't as said; that it is looked at turns nothing.
func wantForm(t *testing.T, l *Lock, f *form, what string) {
	t.Helper()
	for range 2 {
		if l.State() != f.state || l.Why() != f.why || l.May() != f.may() || l.Turns() != f.turns || l.Text() != f.text() {
			t.Fatalf("%s: state %d, why %d, may %d, turns %d, %q; not %d, %d, %d, %d, %q", what, l.State(), l.Why(), l.May(), l.Turns(), l.Text(), f.state, f.why, f.may(), f.turns, f.text())
		}
	}
}

// eachRow goes over all rows of so many calls; try is told a row, the lock ahead of its last call and behind it, and what that one answered.
func eachRow(many int, try func(row []call, was, is *Lock, told int)) {
	all := calls()
	var on func(row []call, was Lock)
	on = func(row []call, was Lock) {
		if len(row) == many {
			return
		}
		for _, c := range all {
			is := was
			told := c.do(&is)
			longer := append(row[:len(row):len(row)], c)
			try(longer, &was, &is, told)
			on(longer, is)
		}
	}
	on(nil, Lock{})
}

// named is the names of a row's calls.
func named(row []call) string {
	out := ""
	for _, c := range row {
		out += c.name + ", "
	}
	return out
}
