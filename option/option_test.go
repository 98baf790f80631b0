package option

import (
	"bytes"
	"slices"
	"testing"

	"greenscreen/api"
)

const may, mayNot = 25, 26

// words is the verbs of a side: what is said of it, and what is heard of it.
type words struct{ on, off, heardOn, heardOff byte }

func wordsOf(ours bool) words {
	if ours {
		return words{on: 251, off: 252, heardOn: 253, heardOff: 254}
	}
	return words{on: 253, off: 254, heardOn: 251, heardOff: 252}
}

// in is options in which one is in a state.
func in(t *testing.T, ours bool, option byte, state int) *Options {
	t.Helper()
	w := wordsOf(ours)
	o := New([]byte{may}, []byte{may})
	var calls []byte
	switch state {
	case Yes:
		o.Want(w.on, option)
		o.Got(w.heardOn, option)
	case WantNo:
		o.Want(w.on, option)
		o.Got(w.heardOn, option)
		calls = []byte{w.off}
	case WantYes:
		calls = []byte{w.on}
	case WantNoYes:
		o.Want(w.on, option)
		o.Got(w.heardOn, option)
		calls = []byte{w.off, w.on}
	case WantYesNo:
		calls = []byte{w.on, w.off}
	}
	for _, code := range calls {
		o.Want(code, option)
	}
	if o.State(ours, option) != state {
		t.Fatalf("state %d of %t isn't reached", state, ours)
	}
	return o
}

func wantGot(t *testing.T, o *Options, code, option byte, want ...byte) {
	t.Helper()
	if said := o.Got(code, option); !bytes.Equal(said, want) {
		t.Fatalf("Got(%d, %d) = %v, not %v", code, option, said, want)
	}
}

func wantWant(t *testing.T, o *Options, code, option byte, e api.Errno, want ...byte) {
	t.Helper()
	if said, is := o.Want(code, option); !bytes.Equal(said, want) || is != e {
		t.Fatalf("Want(%d, %d) = %v %d, not %v %d", code, option, said, is, want, e)
	}
}

func wantState(t *testing.T, o *Options, ours bool, option byte, want int) {
	t.Helper()
	busy := want != No && want != Yes
	if got := o.State(ours, option); got != want || o.On(ours, option) != (want == Yes) || o.Busy() != busy {
		t.Fatalf("the state of %d (ours: %t) is %d, On %t, Busy %t, not %d", option, ours, got, o.On(ours, option), o.Busy(), want)
	}
	if list := slices.Collect(o.All(ours)); slices.Contains(list, option) != (want == Yes) {
		t.Fatalf("All(%t) = %v in state %d", ours, list, want)
	}
}

func TestNumbers(t *testing.T) { // P6.1
	if No != 0 || Yes != 1 || WantNo != 2 || WantYes != 3 || WantNoYes != 4 || WantYesNo != 5 {
		t.Error("the states are not 0 to 5")
	}
	if Will != 251 || Wont != 252 || Do != 253 || Dont != 254 {
		t.Error("the verbs are not 251 to 254")
	}
}

func TestExample(t *testing.T) { // P6.1
	o := New([]byte{25}, nil)
	wantGot(t, o, 253, 25, 255, 251, 25)
	wantState(t, o, true, 25, Yes)
	wantState(t, o, false, 25, No)
}

func TestAtFirst(t *testing.T) { // P6.1: all are No, those that may be on too
	o := New([]byte{0, 255}, []byte{7})
	for option := range 256 {
		wantState(t, o, true, byte(option), No)
		wantState(t, o, false, byte(option), No)
	}
}

func TestMayBeOn(t *testing.T) { // P6.1, P6.3: just those that were named, on their side alone
	ours, theirs := []byte{0, 25, 25, 255}, []byte{1, 24, 254}
	for option := range 256 {
		for _, mine := range []bool{true, false} {
			b := byte(option)
			o, w := New(ours, theirs), wordsOf(mine)
			list := theirs
			if mine {
				list = ours
			}
			if slices.Contains(list, b) {
				wantGot(t, o, w.heardOn, b, 255, w.on, b)
				wantState(t, o, mine, b, Yes)
			} else {
				wantGot(t, o, w.heardOn, b, 255, w.off, b)
				wantState(t, o, mine, b, No)
			}
			wantState(t, o, !mine, b, No)
			// Its being on isn't hidden by the others that are.
			if got := slices.Collect(o.All(mine)); len(got) > 1 {
				t.Fatalf("All(%t) = %v", mine, got)
			}
		}
	}
	for option := range 256 {
		o := New(nil, []byte{})
		wantGot(t, o, Do, byte(option), 255, Wont, byte(option))
		wantGot(t, o, Will, byte(option), 255, Dont, byte(option))
	}
}

// turn is the state behind one, and what is said, as on and off.
type turn struct {
	to        int
	on, off   bool
	otherwise api.Errno
}

func (c turn) said(w words, option byte) []byte {
	switch {
	case c.on:
		return []byte{255, w.on, option}
	case c.off:
		return []byte{255, w.off, option}
	}
	return nil
}

func TestGotInEveryState(t *testing.T) { // P6.1
	for _, ours := range []bool{true, false} {
		w := wordsOf(ours)
		for _, option := range []byte{may, mayNot} {
			whenNo := turn{to: Yes, on: true}
			if option == mayNot {
				whenNo = turn{to: No, off: true}
			}
			on := []turn{whenNo, {to: Yes}, {to: No}, {to: Yes}, {to: Yes}, {to: WantNo, off: true}}
			off := []turn{{to: No}, {to: No, off: true}, {to: No}, {to: No}, {to: WantYes, on: true}, {to: No}}
			for state := No; state <= WantYesNo; state++ {
				o := in(t, ours, option, state)
				wantGot(t, o, w.heardOn, option, on[state].said(w, option)...)
				wantState(t, o, ours, option, on[state].to)
				wantState(t, in(t, ours, option, state), ours, option, state)
				o = in(t, ours, option, state)
				wantGot(t, o, w.heardOff, option, off[state].said(w, option)...)
				wantState(t, o, ours, option, off[state].to)
			}
		}
	}
}

func TestWantInEveryState(t *testing.T) { // P6.1: an option that may not be on may be wanted all the same
	twice := api.ErrTwice
	for _, ours := range []bool{true, false} {
		w := wordsOf(ours)
		for _, option := range []byte{may, mayNot} {
			on := []turn{
				{to: WantYes, on: true}, {to: Yes, otherwise: twice}, {to: WantNoYes},
				{to: WantYes, otherwise: twice}, {to: WantNoYes, otherwise: twice}, {to: WantYes},
			}
			off := []turn{
				{to: No, otherwise: twice}, {to: WantNo, off: true}, {to: WantNo, otherwise: twice},
				{to: WantYesNo}, {to: WantNo}, {to: WantYesNo, otherwise: twice},
			}
			for state := No; state <= WantYesNo; state++ {
				o := in(t, ours, option, state)
				wantWant(t, o, w.on, option, on[state].otherwise, on[state].said(w, option)...)
				wantState(t, o, ours, option, on[state].to)
				o = in(t, ours, option, state)
				wantWant(t, o, w.off, option, off[state].otherwise, off[state].said(w, option)...)
				wantState(t, o, ours, option, off[state].to)
			}
		}
	}
}

func TestNoVerb(t *testing.T) { // P6.1
	for code := range 251 {
		for state := No; state <= WantYesNo; state++ {
			for _, ours := range []bool{true, false} {
				o := in(t, ours, may, state)
				wantGot(t, o, byte(code), may)
				wantWant(t, o, byte(code), may, api.ErrArg)
				wantState(t, o, ours, may, state)
			}
		}
	}
	o := New([]byte{may}, []byte{may})
	wantGot(t, o, 255, may)
	wantWant(t, o, 255, may, api.ErrArg)
}

func TestOthersStay(t *testing.T) { // P6.1: an option's neighbours and its other side aren't turned
	for _, option := range []byte{0, 1, 128, 254, 255} {
		for _, ours := range []bool{true, false} {
			o, w := New(nil, nil), wordsOf(ours)
			wantWant(t, o, w.on, option, api.OK, 255, w.on, option)
			if o.State(!ours, option) != No || o.State(ours, option+1) != No || o.State(ours, option-1) != No {
				t.Fatalf("another one than %d was turned", option)
			}
		}
	}
}

func TestAllRises(t *testing.T) { // P6.1
	o := New([]byte{0, 24, 25, 254, 255}, []byte{3, 2})
	for _, option := range []byte{255, 25, 0, 254, 24} {
		o.Got(Do, option)
	}
	for _, option := range []byte{3, 2} {
		o.Got(Will, option)
	}
	all := o.All(true)
	for range 2 { // it may be gone over more than once
		if got := slices.Collect(all); !slices.Equal(got, []byte{0, 24, 25, 254, 255}) {
			t.Errorf("All(true) = %v", got)
		}
	}
	if got := slices.Collect(o.All(false)); !slices.Equal(got, []byte{2, 3}) {
		t.Errorf("All(false) = %v", got)
	}
	var got []byte
	for option := range all {
		if got = append(got, option); len(got) == 2 {
			break
		}
	}
	if !slices.Equal(got, []byte{0, 24}) {
		t.Errorf("two of them: %v", got)
	}
	if o.Busy() {
		t.Error("Busy")
	}
}

func TestBusy(t *testing.T) { // P6.1: of either side, the first and the last option too
	for _, code := range []byte{Will, Do} {
		for _, option := range []byte{0, 100, 255} {
			o := New(nil, nil)
			if o.Busy() {
				t.Fatal("Busy at first")
			}
			o.Want(code, option)
			if !o.Busy() {
				t.Fatalf("not Busy with %d %d", code, option)
			}
		}
	}
}

// line is two sides, and the words that are on their way from each to the other one.
type line struct {
	sides  [2]Options
	on     [2][]byte
	wishes int
	words  int
}

// verbs is the verbs in bytes that are said.
func verbs(said []byte) []byte {
	var codes []byte
	for ; len(said) >= 3; said = said[3:] {
		codes = append(codes, said[1])
	}
	return codes
}

func (l line) wish(side int, code byte) (line, bool) {
	said, e := l.sides[side].Want(code, 7)
	if e != api.OK {
		return l, false
	}
	l.wishes++
	return l.sent(side, said), true
}

func (l line) sent(side int, said []byte) line {
	codes := verbs(said)
	l.words += len(codes)
	l.on[side] = slices.Concat(l.on[side], codes)
	return l
}

// come lets the first word that a side said come to the other one.
func (l line) come(from int) (line, bool) {
	if len(l.on[from]) == 0 {
		return l, false
	}
	code := l.on[from][0]
	l.on[from] = l.on[from][1:]
	return l.sent(1-from, l.sides[1-from].Got(code, 7)), true
}

// key is what two lines must have the same of to go on the same way.
func (l line) key() string {
	states := []byte{byte(l.wishes), byte(l.words)}
	for i := range l.sides {
		states = append(states, byte(l.sides[i].State(true, 7)), byte(l.sides[i].State(false, 7)))
	}
	return string(slices.Concat(states, []byte{'/'}, l.on[0], []byte{'/'}, l.on[1]))
}

func (l line) rests(t *testing.T) {
	if l.words > 2*l.wishes {
		t.Fatalf("%d words for %d wishes", l.words, l.wishes)
	}
	if len(l.on[0]) > 0 || len(l.on[1]) > 0 {
		return
	}
	one, two := &l.sides[0], &l.sides[1]
	if one.Busy() || two.Busy() || one.On(true, 7) != two.On(false, 7) || one.On(false, 7) != two.On(true, 7) {
		t.Fatalf("behind %d wishes they don't agree: %d %d, %d %d", l.wishes,
			one.State(true, 7), two.State(false, 7), one.State(false, 7), two.State(true, 7))
	}
}

func TestTwoSidesComeToRest(t *testing.T) { // P6.2, P6.3: all rows of up to six wishes, with the words coming at every time
	for which := range 16 {
		allow := func(bit int) []byte {
			if which>>bit&1 == 1 {
				return []byte{7}
			}
			return nil
		}
		seen := map[string]bool{}
		var goOn func(l line)
		goOn = func(l line) {
			if key := l.key(); seen[key] {
				return
			} else {
				seen[key] = true
			}
			l.rests(t)
			for side := range 2 {
				if next, ok := l.come(side); ok {
					goOn(next)
				}
				for _, code := range []byte{Will, Wont, Do, Dont} {
					if l.wishes == 6 {
						break
					}
					if next, ok := l.wish(side, code); ok {
						goOn(next)
					}
				}
			}
		}
		goOn(line{sides: [2]Options{*New(allow(0), allow(1)), *New(allow(2), allow(3))}})
		if len(seen) < 1000 {
			t.Fatalf("%d states alone", len(seen))
		}
	}
}

func TestNeverOnUnwanted(t *testing.T) { // P6.3: whatever the other side says, in all rows of five words
	var row func(o Options, left int)
	row = func(o Options, left int) {
		if o.On(true, 7) || o.On(false, 7) {
			t.Fatal("it is on")
		}
		if left == 0 {
			return
		}
		for _, code := range []byte{Will, Wont, Do, Dont} {
			next := o
			next.Got(code, 7)
			row(next, left-1)
		}
		for _, code := range []byte{Wont, Dont} { // wishes that it be off
			next := o
			next.Want(code, 7)
			row(next, left-1)
		}
	}
	row(*New(nil, nil), 5)
	row(*New([]byte{6, 8}, []byte{6, 8}), 5)
}

func TestMemory(t *testing.T) { // P6.1: the lists handed in are neither kept nor changed
	ours, theirs := []byte{25, 25, 3}, []byte{24}
	o := New(ours[:2], theirs)
	if !slices.Equal(ours, []byte{25, 25, 3}) || !slices.Equal(theirs, []byte{24}) {
		t.Fatal("the lists were changed")
	}
	ours[0], ours[1], theirs[0] = 9, 9, 9
	wantGot(t, o, Do, 9, 255, Wont, 9)
	wantGot(t, o, Do, 3, 255, Wont, 3)
	wantGot(t, o, Do, 25, 255, Will, 25)
	wantGot(t, o, Will, 24, 255, Do, 24)
	one, two := New([]byte{1}, nil), New([]byte{1}, nil)
	one.Got(Do, 1)
	wantState(t, two, true, 1, No)
}
