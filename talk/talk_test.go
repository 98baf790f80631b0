package talk

import (
	"bytes"
	"slices"
	"strings"
	"testing"

	"greenscreen/iac"
	"greenscreen/option"
)

func verb(code, option byte) iac.Event {
	return iac.Event{Kind: iac.Verb, Code: code, Option: option}
}

func sub(option byte, b ...byte) iac.Event {
	return iac.Event{Kind: iac.Sub, Option: option, Bytes: b}
}

var sendName = sub(24, 1)

// told is the bytes that tell a name, which has no byte 255.
func told(name string) []byte {
	return slices.Concat([]byte{255, 250, 24, 0}, []byte(name), []byte{255, 240})
}

func wantSaid(t *testing.T, k *Talk, e iac.Event, want ...byte) {
	t.Helper()
	if said := k.Take(e); !bytes.Equal(said, want) {
		t.Fatalf("Take(%+v) = %v, not %v", e, said, want)
	}
}

// state is what a talk tells of itself.
type state struct{ basic, extended, named bool }

func stateOf(k *Talk) state { return state{k.Basic(), k.Extended(), k.Named()} }

func wantState(t *testing.T, k *Talk, want state) {
	t.Helper()
	if got := stateOf(k); got != want {
		t.Fatalf("it is %+v, not %+v", got, want)
	}
}

// basicSteps is what a host says that wants a basic terminal.
func basicSteps() []iac.Event {
	return []iac.Event{verb(253, 24), sendName, verb(251, 25), verb(253, 25), verb(251, 0), verb(253, 0)}
}

// basic is a talk that agreed on a basic terminal.
func basic(t *testing.T, extended bool) *Talk {
	t.Helper()
	k := New("IBM-3278-2", extended)
	for _, e := range basicSteps() {
		k.Take(e)
	}
	wantState(t, k, state{basic: true, named: true})
	return k
}

func TestExample(t *testing.T) { // P7.1
	k := New("IBM-3278-2", false)
	wantSaid(t, k, verb(253, 24), 255, 251, 24)
	wantSaid(t, k, sub(24, 1), told("IBM-3278-2")...)
	wantState(t, k, state{named: true})
	wantSaid(t, k, verb(253, 25), 255, 251, 25) // the third example of the whole
}

func TestNames(t *testing.T) { // P7.1: as it is told, and as Name answers it
	for _, c := range []struct{ name, want string }{
		{"", ""},
		{"A", "A"},
		{strings.Repeat("a", 15), strings.Repeat("a", 15)},
		{"0123456789ABCDEF", "0123456789ABCDEF"},
		{"0123456789ABCDEFG", "0123456789ABCDEF"},
		{strings.Repeat("xy", 5000), strings.Repeat("xy", 8)},
		{"!~", "!~"},
		{" A\x7f", "?A?"},
		{"\x00\x01\x1f\x20\x21\x7e\x7f\x80\xfe\xff", "????!~????"},
		{"é", "??"},
		{"€", "???"},
		{"0123456789ABCDEé", "0123456789ABCDE?"},
	} {
		k := New(c.name, false)
		k.Take(verb(253, 24))
		wantSaid(t, k, sendName, told(c.want)...)
		if got := k.Name(); got != c.want || !k.Named() {
			t.Errorf("the name of %q is %q, not %q (Named: %t)", c.name, got, c.want, k.Named())
		}
	}
	for x := range 256 {
		want := "?"
		if x >= 33 && x <= 126 {
			want = string(rune(x))
		}
		if got := New(string([]byte{'a', byte(x), 'z'}), true).Name(); got != "a"+want+"z" {
			t.Errorf("byte %d is %q in a name", x, got)
		}
	}
}

func TestVerbsAreOptions(t *testing.T) { // P7.1: each verb of each option, on and off, is said as layer 6 says it
	for _, extended := range []bool{false, true} {
		ours := []byte{0, 24, 25}
		if extended {
			ours = append(ours, 40)
		}
		for o := range 256 {
			for _, row := range [][]byte{{251}, {252}, {253}, {254}, {253, 254, 253}, {251, 252, 251}, {253, 253, 251, 251, 254, 252}, {250, 255, 0, 253}} {
				k, model := New("A", extended), option.New(ours, []byte{0, 25})
				for _, code := range row {
					wantSaid(t, k, verb(code, byte(o)), model.Got(code, byte(o))...)
					for _, mine := range []bool{true, false} {
						if got, want := k.Options().State(mine, byte(o)), model.State(mine, byte(o)); got != want {
							t.Fatalf("option %d (ours: %t) is in the state %d, not %d, behind %v", o, mine, got, want, row)
						}
					}
					if k.Extended() != (o == 40 && model.On(true, 40)) {
						t.Fatalf("Extended is %t behind %v of %d", k.Extended(), row, o)
					}
				}
			}
		}
	}
}

func TestMayBeOn(t *testing.T) { // P7.1: the four options, in words of the document
	for _, extended := range []bool{false, true} {
		for o := range 256 {
			b := byte(o)
			ours := b == 0 || b == 24 || b == 25 || b == 40 && extended
			theirs := b == 0 || b == 25
			k := New("A", extended)
			if ours {
				wantSaid(t, k, verb(253, b), 255, 251, b)
			} else {
				wantSaid(t, k, verb(253, b), 255, 252, b)
			}
			if theirs {
				wantSaid(t, k, verb(251, b), 255, 253, b)
			} else {
				wantSaid(t, k, verb(251, b), 255, 254, b)
			}
			if k.Options().On(true, b) != ours || k.Options().On(false, b) != theirs {
				t.Fatalf("option %d is on: %t, %t", b, k.Options().On(true, b), k.Options().On(false, b))
			}
		}
	}
}

func TestOtherEvents(t *testing.T) { // P7.1: nothing is said, and nothing is turned
	for _, start := range []*Talk{New("A", true), basic(t, true)} {
		before := stateOf(start)
		for kind := -1; kind <= 9; kind++ {
			if kind == iac.Verb {
				continue
			}
			for _, code := range []byte{0, 24, 241, 251, 253, 254, 255} {
				for _, o := range []byte{0, 24, 25, 40, 255} {
					for _, b := range [][]byte{nil, {}, {1}, {0}, {1, 1}} {
						if kind == iac.Sub && o == 24 && len(b) == 1 && b[0] == 1 {
							continue
						}
						wantSaid(t, start, iac.Event{Kind: kind, Code: code, Option: o, Bytes: b})
						wantState(t, start, before)
					}
				}
			}
		}
	}
}

func TestSend(t *testing.T) { // P7.1: SEND alone, of TERMINAL-TYPE alone, while it is on
	k := New("A", true)
	wantSaid(t, k, sendName) // at first it is off
	wantState(t, k, state{})
	k.Take(verb(253, 24))
	for x := range 256 {
		if x == 1 {
			continue
		}
		wantSaid(t, k, sub(24, byte(x)))
	}
	for _, b := range [][]byte{nil, {1, 1}, {1, 0}, {0, 1}, {1, 'A'}, make([]byte, 256)} {
		wantSaid(t, k, sub(24, b...))
	}
	for o := range 256 {
		if o != 24 {
			wantSaid(t, k, sub(byte(o), 1))
		}
	}
	for _, kind := range []int{iac.Long, iac.Bad, iac.Data, iac.End, iac.Command, 0} {
		wantSaid(t, k, iac.Event{Kind: kind, Option: 24, Bytes: []byte{1}})
	}
	wantState(t, k, state{})
	// A Sub's Code says nothing.
	wantSaid(t, k, iac.Event{Kind: iac.Sub, Code: 9, Option: 24, Bytes: []byte{1}}, told("A")...)
	wantState(t, k, state{named: true})
	wantSaid(t, k, sendName, told("A")...) // as often as it is asked for
	wantSaid(t, k, verb(254, 24), 255, 252, 24)
	wantSaid(t, k, sendName)
	wantState(t, k, state{})
}

func TestTheirTerminalType(t *testing.T) { // P7.1: that it is on on the other side doesn't count
	k := New("A", false)
	k.Options().Want(option.Do, 24)
	k.Take(verb(251, 24))
	if !k.Options().On(false, 24) {
		t.Fatal("it isn't on there")
	}
	wantSaid(t, k, sendName)
	wantState(t, k, state{})
	k.Take(verb(253, 24))
	wantSaid(t, k, sendName, told("A")...)
	k.Take(verb(252, 24))
	wantState(t, k, state{named: true})
}

func TestNamedEverSince(t *testing.T) { // P7.1: off and on again, the name is untold
	k := basic(t, true)
	wantSaid(t, k, verb(254, 24), 255, 252, 24)
	wantState(t, k, state{})
	wantSaid(t, k, verb(253, 24), 255, 251, 24)
	wantState(t, k, state{})
	wantSaid(t, k, sendName, told("IBM-3278-2")...)
	wantState(t, k, state{basic: true, named: true})
	// Of one event after the other, without a look between.
	k.Take(verb(254, 24))
	k.Take(verb(253, 24))
	wantState(t, k, state{})
	// A verb that turns nothing lets it be.
	k.Take(sendName)
	wantSaid(t, k, verb(253, 24))
	wantState(t, k, state{basic: true, named: true})
}

func TestNamedThroughOptions(t *testing.T) { // P7.1: the options that are handed out are the terminal's own
	k := basic(t, false)
	k.Options().Want(option.Wont, 24) // on its way off
	wantState(t, k, state{})
	k.Options().Want(option.Will, 24)
	wantSaid(t, k, verb(254, 24), 255, 251, 24)
	k.Take(verb(253, 24))
	wantState(t, k, state{})

	k = basic(t, false)
	k.Options().Got(option.Dont, 24)
	k.Options().Got(option.Do, 24)
	wantState(t, k, state{})

	k = basic(t, false)
	k.Options().Want(option.Wont, 24)
	k.Options().Want(option.Will, 24)
	k.Take(verb(253, 24)) // it is on again at once
	wantState(t, k, state{})
}

func TestBasic(t *testing.T) { // P7.1: each of its parts is needed
	steps := basicSteps()
	for without := range steps {
		k := New("A", true)
		for at, e := range steps {
			if at != without {
				k.Take(e)
			}
		}
		wantState(t, k, state{named: without > 1})
	}
	for _, e := range []iac.Event{verb(252, 0), verb(254, 0), verb(252, 25), verb(254, 25)} {
		k := basic(t, false)
		k.Take(e)
		wantState(t, k, state{named: true})
		again := e
		again.Code-- // WILL of WONT, DO of DONT
		k.Take(again)
		wantState(t, k, state{basic: true, named: true})
	}
}

// orders goes over all orders of events.
func orders(es []iac.Event, done func([]iac.Event)) {
	var lay func(at int)
	lay = func(at int) {
		if at == len(es) {
			done(es)
			return
		}
		for i := at; i < len(es); i++ {
			es[at], es[i] = es[i], es[at]
			lay(at + 1)
			es[at], es[i] = es[i], es[at]
		}
	}
	lay(0)
}

func TestHostsInEveryOrder(t *testing.T) { // P7.2: the name can be asked for behind TERMINAL-TYPE alone
	many := 0
	orders(append(basicSteps(), verb(253, 40)), func(es []iac.Event) {
		type24 := slices.IndexFunc(es, func(e iac.Event) bool { return e.Kind == iac.Verb && e.Option == 24 })
		name := slices.IndexFunc(es, func(e iac.Event) bool { return e.Kind == iac.Sub })
		for _, extended := range []bool{false, true} {
			k := New("A", extended)
			for _, e := range es {
				k.Take(e)
			}
			want := state{basic: name > type24, named: name > type24, extended: extended}
			wantState(t, k, want)
			k.Take(sendName) // at last it is asked for all the same
			wantState(t, k, state{basic: true, named: true, extended: extended})
			many++
		}
	})
	if many != 2*5040 {
		t.Fatalf("%d orders", many)
	}
}

// host is the other side: options of its own, and a wish for the name as soon as it may ask.
type host struct {
	options *option.Options
	in      iac.Decoder
	name    []byte
}

// hear is what a host says when bytes come.
func (h *host) hear(b []byte) []byte {
	var said []byte
	for _, e := range h.in.Feed(b) {
		switch e.Kind {
		case iac.Verb:
			was := h.options.On(false, 24)
			said = append(said, h.options.Got(e.Code, e.Option)...)
			if !was && h.options.On(false, 24) {
				said = append(said, iac.Tell(24, []byte{1})...)
			}
		case iac.Sub:
			h.name = e.Bytes
		}
	}
	return said
}

func TestHostByBytes(t *testing.T) { // P7.2: over a connection, with a host that has layer 6 too
	wishes := []iac.Event{verb(253, 24), verb(251, 25), verb(253, 25), verb(251, 0), verb(253, 0), verb(253, 40)}
	orders(wishes, func(es []iac.Event) {
		for which := range 4 {
			extended, wantsIt := which&1 == 1, which&2 == 2
			h := &host{options: option.New(nil, nil)}
			k := New("IBM-3278-2-E", extended)
			var in iac.Decoder
			for _, e := range es {
				if e.Option == 40 && !wantsIt {
					continue
				}
				said, _ := h.options.Want(e.Code, e.Option)
				for len(said) > 0 {
					var answer []byte
					for _, e := range in.Feed(said) {
						answer = append(answer, k.Take(e)...)
					}
					said = h.hear(answer)
				}
			}
			wantState(t, k, state{basic: true, named: true, extended: extended && wantsIt})
			if string(h.name) != "\x00IBM-3278-2-E" || h.options.Busy() || h.options.On(false, 40) != k.Extended() {
				t.Fatalf("the host was told %q, and is busy: %t", h.name, h.options.Busy())
			}
		}
	})
}

func TestLeave(t *testing.T) { // P7.1
	k := New("A", true)
	if said := k.Leave(); len(said) != 0 { // it isn't on
		t.Fatalf("Leave at first: %v", said)
	}
	wantSaid(t, k, verb(253, 40), 255, 251, 40)
	wantState(t, k, state{extended: true})
	if said := k.Leave(); !bytes.Equal(said, []byte{255, 252, 40}) {
		t.Fatalf("Leave: %v", said)
	}
	wantState(t, k, state{})
	if got := k.Options().State(true, 40); got != option.WantNo {
		t.Fatalf("behind Leave the state is %d", got)
	}
	if said := k.Leave(); len(said) != 0 {
		t.Fatalf("Leave, twice: %v", said)
	}
	wantSaid(t, k, verb(254, 40))
	wantState(t, k, state{})
	if said := k.Leave(); len(said) != 0 {
		t.Fatalf("Leave behind its end: %v", said)
	}
	wantSaid(t, k, verb(253, 40), 255, 251, 40) // the host may ask again
	wantState(t, k, state{extended: true})

	k = New("A", false)
	k.Take(verb(253, 40))
	if said := k.Leave(); len(said) != 0 {
		t.Fatalf("Leave of a basic one: %v", said)
	}

	k = basic(t, true)
	k.Take(verb(253, 40))
	wantState(t, k, state{basic: true, named: true, extended: true})
	k.Leave()
	wantState(t, k, state{basic: true, named: true})
}

func TestTheirExtended(t *testing.T) { // P7.1: TN3270E on the other side is none of the terminal's
	k := New("A", true)
	k.Options().Want(option.Do, 40)
	k.Take(verb(251, 40))
	if k.Extended() || !k.Options().On(false, 40) || len(k.Leave()) != 0 {
		t.Fatal("TN3270E is on")
	}
}

func TestOneThingForEachEvent(t *testing.T) { // P7.3: what is said is one event, whole, or none
	row := []byte{0, 1, 24, 25, 40, 255}
	for _, k := range []*Talk{New("A", false), New(strings.Repeat("\xff", 20), true), basic(t, true)} {
		for round := range 3 {
			for kind := range 10 {
				for code := range 256 {
					for _, o := range row {
						for _, b := range [][]byte{nil, {1}, {0, 1}, {255}} {
							said := k.Take(iac.Event{Kind: kind, Code: byte(code), Option: o, Bytes: b})
							var d iac.Decoder
							es := d.Feed(said)
							if len(es) > 1 || d.Open() || len(es) == 1 && es[0].Kind != iac.Verb && es[0].Kind != iac.Sub {
								t.Fatalf("round %d: %d %d of %d with %v: %v", round, kind, code, o, b, said)
							}
						}
					}
				}
			}
		}
	}
}

func TestMemory(t *testing.T) { // P7.1: what is answered is new memory, what is handed in isn't changed
	k := New("ABC", true)
	k.Take(verb(253, 24))
	e := sub(24, 1)
	first := k.Take(e)
	for _, b := range [][]byte{first, k.Take(verb(253, 40)), k.Leave()} {
		for i := range b[:cap(b)] {
			b[:cap(b)][i] = 'x'
		}
	}
	wantSaid(t, k, e, told("ABC")...)
	if e.Bytes[0] != 1 || k.Name() != "ABC" {
		t.Fatal("it was changed")
	}
	other := New("ABC", true)
	wantState(t, other, state{})
}
