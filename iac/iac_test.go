package iac

import (
	"bytes"
	"math/rand"
	"slices"
	"testing"

	"greenscreen/api"
)

// sameEvent tells whether two events are one, a nil list counting as an empty one.
func sameEvent(a, b Event) bool {
	return a.Kind == b.Kind && a.Code == b.Code && a.Option == b.Option && bytes.Equal(a.Bytes, b.Bytes)
}

func same(a, b []Event) bool { return slices.EqualFunc(a, b, sameEvent) }

func wantFeed(t *testing.T, d *Decoder, b []byte, open bool, want ...Event) {
	t.Helper()
	if got := d.Feed(b); !same(got, want) || d.Open() != open {
		t.Fatalf("Feed(%v) = %v, Open %t, not %v, %t", b, got, d.Open(), want, open)
	}
}

func data(b ...byte) Event { return Event{Kind: Data, Bytes: b} }

func subOf(option byte, b ...byte) Event { return Event{Kind: Sub, Option: option, Bytes: b} }

func verbOf(code, option byte) Event { return Event{Kind: Verb, Code: code, Option: option} }

func commandOf(code byte) Event { return Event{Kind: Command, Code: code} }

func badOf(option byte) Event { return Event{Kind: Bad, Option: option} }

var end = Event{Kind: End}

// counted is so many bytes, from a first one on, none of which is 255.
func counted(first, many int) []byte {
	b := make([]byte, many)
	for i := range b {
		b[i] = byte((first + i) % 255)
	}
	return b
}

func TestKinds(t *testing.T) { // P5.1
	if Data != 1 || End != 2 || Command != 3 || Verb != 4 || Sub != 5 || Long != 6 || Bad != 7 {
		t.Error("the kinds are not 1 to 7")
	}
}

func TestExample(t *testing.T) { // P5.1
	var d Decoder
	wantFeed(t, &d, []byte{255, 253, 25, 1, 255, 255, 255, 239}, false, verbOf(253, 25), data(1, 255), end)
}

func TestNothing(t *testing.T) { // P5.1
	var d Decoder
	wantFeed(t, &d, nil, false)
	wantFeed(t, &d, []byte{}, false)
	for _, got := range [][]byte{Escape(nil), Escape([]byte{}), Write(nil), Write([]Event{})} {
		if len(got) != 0 {
			t.Errorf("%v", got)
		}
	}
	if got := Join(nil); len(got) != 0 {
		t.Errorf("Join(nil) = %v", got)
	}
}

func TestEveryByteAlone(t *testing.T) { // P5.1: what a byte is outside of a command
	for x := range 255 {
		var d Decoder
		wantFeed(t, &d, []byte{byte(x)}, false, data(byte(x)))
	}
	var d Decoder
	wantFeed(t, &d, []byte{255}, true)
}

func TestEveryByteBehindMark(t *testing.T) { // P5.1
	for x := range 256 {
		b := byte(x)
		var d Decoder
		switch {
		case b == 255:
			wantFeed(t, &d, []byte{255, b}, false, data(255))
			wantFeed(t, &d, []byte{7}, false, data(7))
		case b == 239:
			wantFeed(t, &d, []byte{255, b}, false, end)
			wantFeed(t, &d, []byte{7}, false, data(7))
		case b == 250:
			wantFeed(t, &d, []byte{255, b}, true)
			wantFeed(t, &d, []byte{7, 255, 240}, false, subOf(7))
		case b >= 251:
			wantFeed(t, &d, []byte{255, b}, true)
			wantFeed(t, &d, []byte{7}, false, verbOf(b, 7))
		default:
			wantFeed(t, &d, []byte{255, b}, false, commandOf(b))
			wantFeed(t, &d, []byte{7}, false, data(7))
		}
	}
}

func TestEveryVerb(t *testing.T) { // P5.1: a verb's option is one byte, whichever
	for code := 251; code <= 254; code++ {
		for option := range 256 {
			var d Decoder
			b := Say(byte(code), byte(option))
			if !bytes.Equal(b, []byte{255, byte(code), byte(option)}) {
				t.Fatalf("Say(%d, %d) = %v", code, option, b)
			}
			wantFeed(t, &d, b, false, verbOf(byte(code), byte(option)))
			wantFeed(t, &d, []byte{240}, false, data(240))
		}
	}
}

func TestDataTogether(t *testing.T) { // P5.1: as many as stand together are one event
	var d Decoder
	wantFeed(t, &d, []byte{1, 255, 255, 2, 255, 255, 255, 255, 3}, false, data(1, 255, 2, 255, 255, 3))
	wantFeed(t, &d, []byte{1, 255, 241, 2, 255, 239, 3, 4, 255, 251, 0, 5}, false,
		data(1), commandOf(241), data(2), end, data(3, 4), verbOf(251, 0), data(5))
	wantFeed(t, &d, []byte{255, 239, 255, 239}, false, end, end)
	wantFeed(t, &d, []byte{1}, false, data(1))
	wantFeed(t, &d, []byte{2, 255}, true, data(2))
	wantFeed(t, &d, nil, true)
	wantFeed(t, &d, []byte{255, 3}, false, data(255, 3))
}

func TestSubAtItsBounds(t *testing.T) { // P5.1: up to MaxSub bytes; those beyond are let go
	for _, many := range []int{0, 1, 2, 255, 256, 257, 258, 600, 5000} {
		for _, option := range []byte{0, 24, 239, 240, 250, 254, 255} {
			var d Decoder
			b := counted(3, many)
			told := subOf(option, b...)
			if many > api.MaxSub {
				told = Event{Kind: Long, Option: option, Bytes: b[:256]}
			}
			fed := append([]byte{255, 250, option}, b...)
			if option == 255 {
				fed = append([]byte{255, 250, 255, 255}, b...)
			}
			fed = append(fed, 255, 240)
			wantFeed(t, &d, fed, false, told)
			if got := Tell(option, b); !bytes.Equal(got, fed) {
				t.Fatalf("Tell of %d bytes of %d", many, option)
			}
			wantFeed(t, &d, append(fed, 9), false, told, data(9)) // nothing of it is left
		}
	}
}

func TestMarkInSub(t *testing.T) { // P5.1: 255 255 is one byte, at the bound too
	for _, many := range []int{1, 2, 255, 256, 257, 300} {
		var d Decoder
		marks := bytes.Repeat([]byte{255}, many)
		fed := append(append([]byte{255, 250, 40}, bytes.Repeat([]byte{255}, 2*many)...), 255, 240)
		if got := Tell(40, marks); !bytes.Equal(got, fed) {
			t.Fatalf("Tell of %d", many)
		}
		if many <= api.MaxSub {
			wantFeed(t, &d, fed, false, subOf(40, marks...))
		} else {
			wantFeed(t, &d, fed, false, Event{Kind: Long, Option: 40, Bytes: marks[:256]})
		}
	}
	var d Decoder
	wantFeed(t, &d, []byte{255, 250, 1, 240, 239, 250, 255, 255, 251, 255, 240}, false, subOf(1, 240, 239, 250, 255, 251))
}

func TestSubOfOption255(t *testing.T) { // P5.1
	var d Decoder
	wantFeed(t, &d, []byte{255, 250, 255}, true)
	wantFeed(t, &d, []byte{255}, true)
	wantFeed(t, &d, []byte{255, 240}, false, subOf(255))
	wantFeed(t, &d, []byte{255, 250, 255, 255, 255, 255, 7, 255, 240}, false, subOf(255, 255, 7))
	wantFeed(t, &d, []byte{255, 250, 255, 255, 255, 239}, false, badOf(255), end)
}

func TestSubWithoutOption(t *testing.T) { // P5.1: none was there, so it is no Sub
	var d Decoder
	wantFeed(t, &d, []byte{255, 250, 255, 240, 1}, false, badOf(0), data(1))
	wantFeed(t, &d, []byte{255, 250, 255, 239, 1}, false, badOf(0), end, data(1))
	wantFeed(t, &d, []byte{255, 250, 255, 0, 1}, false, badOf(0), commandOf(0), data(1))
}

func TestSubThatBreaksOff(t *testing.T) { // P5.1: with every byte behind its 255, whatever it has
	for x := range 255 {
		b := byte(x)
		if b == 240 {
			continue
		}
		for _, had := range [][]byte{nil, {7}, {7, 8}, append([]byte{7}, counted(0, 256)...), append([]byte{7}, counted(0, 257)...)} {
			bad := badOf(0)
			if len(had) > 0 {
				bad = badOf(7)
			}
			var d Decoder
			wantFeed(t, &d, append(append([]byte{255, 250}, had...), 255), true)
			switch {
			case b == 239:
				wantFeed(t, &d, []byte{b}, false, bad, end)
			case b == 250:
				wantFeed(t, &d, []byte{b}, true, bad)
				wantFeed(t, &d, []byte{9, 4, 255, 240}, false, subOf(9, 4))
			case b >= 251:
				wantFeed(t, &d, []byte{b}, true, bad)
				wantFeed(t, &d, []byte{9}, false, verbOf(b, 9))
			default:
				wantFeed(t, &d, []byte{b}, false, bad, commandOf(b))
			}
			wantFeed(t, &d, []byte{1, 255, 240}, false, data(1), commandOf(240))
		}
	}
}

// read is what bytes are, found out by cutting off one event after the other from all of them: what is told for sure, and whether something is begun behind it.
func read(b []byte) (es []Event, open bool) {
	for len(b) > 0 {
		e, many := first(b)
		if many == 0 {
			return Join(es), true
		}
		es, b = append(es, e), b[many:]
	}
	return Join(es), false
}

// first is the event that bytes begin with, and how many they are; 0 if it isn't at its end.
func first(b []byte) (Event, int) {
	if b[0] != 255 {
		return data(b[0]), 1
	}
	if len(b) == 1 {
		return Event{}, 0
	}
	switch b[1] {
	case 255:
		return data(255), 2
	case 239:
		return end, 2
	case 250:
		return firstSub(b)
	case 251, 252, 253, 254:
		if len(b) == 2 {
			return Event{}, 0
		}
		return verbOf(b[1], b[2]), 3
	}
	return commandOf(b[1]), 2
}

func firstSub(b []byte) (Event, int) {
	var held []byte
	for at := 2; at < len(b); at++ {
		if b[at] != 255 {
			held = append(held, b[at])
			continue
		}
		if at++; at == len(b) {
			break
		}
		switch {
		case b[at] == 255:
			held = append(held, 255)
		case b[at] != 240:
			bad := badOf(append(held, 0)[0])
			return bad, at - 1 // the 255 is read again, with that byte behind it
		case len(held) == 0:
			return badOf(0), at + 1
		default:
			return subOf(held[0], held[1:]...), at + 1
		}
	}
	return Event{}, 0
}

// told is what a decoder tells of bytes that are fed in parts that end at the cuts.
func told(b []byte, cuts ...int) ([]Event, bool) {
	var d Decoder
	var es []Event
	from := 0
	for _, to := range append(cuts, len(b)) {
		es = append(es, d.Feed(b[from:to])...)
		from = to
	}
	return Join(es), d.Open()
}

func TestAllShortRows(t *testing.T) { // P5.1, P5.2: all rows of bytes that mean something, whole and cut in two
	signs := []byte{0, 24, 239, 240, 241, 250, 251, 255}
	var row func(b []byte, left int)
	row = func(b []byte, left int) {
		want, open := read(b)
		for cut := 0; cut <= len(b); cut++ {
			if got, is := told(b, cut); !same(got, want) || is != open {
				t.Fatalf("%v, cut at %d: %v, Open %t, not %v, %t", b, cut, got, is, want, open)
			}
		}
		if left == 0 {
			return
		}
		for _, x := range signs {
			row(append(b[:len(b):len(b)], x), left-1)
		}
	}
	row([]byte{}, 5)
	row([]byte{255, 250}, 4)
	row([]byte{255, 250, 255, 255}, 4)
}

func TestCutEverywhere(t *testing.T) { // P5.2
	b := []byte{1, 255, 255, 2, 255, 253, 25, 3}
	b = append(b, Tell(24, []byte{0, 255, 9})...)
	b = append(b, Tell(255, counted(5, 256))...)
	b = append(b, Tell(7, counted(9, 257))...)
	b = append(b, 255, 250, 40, 1, 255, 251, 40, 255, 241, 4, 5, 255, 239)
	want := Join([]Event{
		data(1, 255, 2), verbOf(253, 25), data(3), subOf(24, 0, 255, 9), subOf(255, counted(5, 256)...),
		{Kind: Long, Option: 7, Bytes: counted(9, 256)}, badOf(40), verbOf(251, 40), commandOf(241), data(4, 5), end,
	})
	for one := 0; one <= len(b); one++ {
		for two := one; two <= len(b); two++ {
			if got, open := told(b, one, two); !same(got, want) || open {
				t.Fatalf("cut at %d and %d: %v", one, two, got)
			}
		}
	}
	every := make([]int, len(b))
	for i := range every {
		every[i] = i
	}
	if got, open := told(b, every...); !same(got, want) || open {
		t.Fatalf("cut everywhere: %v", got)
	}
}

// someEvent is an event that may be.
func someEvent(r *rand.Rand) Event {
	some := func(many int) []byte {
		b := make([]byte, many)
		for i := range b {
			b[i] = []byte{0, 1, 239, 240, 250, 251, 255, byte(r.Intn(256))}[r.Intn(8)]
		}
		return b
	}
	switch r.Intn(5) {
	case 0:
		return data(some(r.Intn(5))...)
	case 1:
		return end
	case 2:
		code := byte(r.Intn(249))
		if code >= 239 {
			code++
		}
		return commandOf(code)
	case 3:
		return verbOf(byte(251+r.Intn(4)), some(1)[0])
	default:
		return subOf(some(1)[0], some([]int{0, 1, 2, 5, 255, 256}[r.Intn(6)])...)
	}
}

func TestWrittenIsTold(t *testing.T) { // P5.3
	r := rand.New(rand.NewSource(5))
	for range 3000 {
		var es []Event
		for range r.Intn(9) {
			es = append(es, someEvent(r))
		}
		var d Decoder
		if got := d.Feed(Write(es)); !same(got, Join(es)) || d.Open() {
			t.Fatalf("%v is told as %v", es, got)
		}
	}
}

func TestWrite(t *testing.T) { // P5.1, P5.3
	for _, c := range []struct {
		e    Event
		want []byte
	}{
		{data(1, 255, 2), []byte{1, 255, 255, 2}},
		{data(), nil},
		{end, []byte{255, 239}},
		{commandOf(241), []byte{255, 241}},
		{commandOf(0), []byte{255, 0}},
		{verbOf(254, 255), []byte{255, 254, 255}},
		{verbOf(251, 40), []byte{255, 251, 40}},
		{subOf(24, 0, 255), []byte{255, 250, 24, 0, 255, 255, 255, 240}},
		{subOf(255), []byte{255, 250, 255, 255, 255, 240}},
		{Event{Kind: Long, Option: 24, Bytes: []byte{7}}, []byte{255, 250, 24, 7, 255, 240}},
		{badOf(24), nil},
		{Event{Kind: Bad, Option: 24, Code: 251, Bytes: []byte{1}}, nil},
		{Event{Kind: 0, Bytes: []byte{1}}, nil},
		{Event{Kind: 8, Bytes: []byte{1}}, nil},
		{Event{Kind: -1, Bytes: []byte{1}}, nil},
	} {
		if got := Write([]Event{c.e}); !bytes.Equal(got, c.want) {
			t.Errorf("Write(%v) = %v", c.e, got)
		}
		if got := Write([]Event{end, c.e, end}); !bytes.Equal(got, slices.Concat([]byte{255, 239}, c.want, []byte{255, 239})) {
			t.Errorf("Write of %v between = %v", c.e, got)
		}
	}
}

func TestEscapeAndRecord(t *testing.T) { // P5.1, P5.3
	for _, c := range [][2][]byte{
		{nil, nil}, {{1, 2}, {1, 2}}, {{255}, {255, 255}}, {{255, 255, 0, 255}, {255, 255, 255, 255, 0, 255, 255}}, {{239, 240}, {239, 240}},
	} {
		if got := Escape(c[0]); !bytes.Equal(got, c[1]) {
			t.Errorf("Escape(%v) = %v", c[0], got)
		}
		if got := Record(c[0]); !bytes.Equal(got, slices.Concat(c[1], []byte{255, 239})) {
			t.Errorf("Record(%v) = %v", c[0], got)
		}
		var d Decoder
		got := append(d.Feed(Record(c[0])), Event{})
		if !same(got, append(Join([]Event{data(c[0]...), end}), Event{})) {
			t.Errorf("Record(%v) is told as %v", c[0], got)
		}
	}
}

func TestJoin(t *testing.T) { // P5.1
	for _, c := range [][2][]Event{
		{{data(1), data(2), data(), data(3)}, {data(1, 2, 3)}},
		{{data(), data()}, nil},
		{{data(1), end, data(), end, data(2), data(3)}, {data(1), end, end, data(2, 3)}},
		{{subOf(1, 2), subOf(1, 3)}, {subOf(1, 2), subOf(1, 3)}},
		{{subOf(1), verbOf(251, 1), badOf(2), commandOf(3)}, {subOf(1), verbOf(251, 1), badOf(2), commandOf(3)}},
		{{data(), subOf(4, 5), data()}, {subOf(4, 5)}},
	} {
		if got := Join(c[0]); !same(got, c[1]) {
			t.Errorf("Join(%v) = %v", c[0], got)
		}
	}
}

// spoil writes over all of a list's memory, spare room too.
func spoil(b []byte) {
	for i := range b[:cap(b)] {
		b[:cap(b)][i] ^= 0xAA
	}
}

func TestMemory(t *testing.T) { // P5.1: what is fed is neither kept nor changed, what is answered is new
	var d Decoder
	fed := []byte{1, 2, 255, 250, 24, 3, 4, 99}
	spare := fed[:7]
	es := d.Feed(spare)
	if !bytes.Equal(fed, []byte{1, 2, 255, 250, 24, 3, 4, 99}) {
		t.Fatal("what is fed was changed")
	}
	spoil(fed)
	if !same(es, []Event{data(1, 2)}) {
		t.Fatalf("%v", es)
	}
	es = d.Feed([]byte{5, 255, 240, 6, 255, 250, 25, 8, 255, 240, 7})
	if !same(es, []Event{subOf(24, 3, 4, 5), data(6), subOf(25, 8), data(7)}) {
		t.Fatalf("%v", es)
	}
	for i := range es {
		spoil(es[i].Bytes)
	}
	for i, want := range [][]byte{{3, 4, 5}, {6}, {8}, {7}} {
		spoil(es[i].Bytes)
		if !bytes.Equal(es[i].Bytes, want) {
			t.Errorf("the lists share: %v", es)
		}
	}
	wantFeed(t, &d, []byte{255, 250, 24, 255, 240}, false, subOf(24))
}

func TestJoinMemory(t *testing.T) { // P5.1
	row := []byte{1, 2, 3, 4, 5, 6}
	es := []Event{data(row[:1]...), data(row[1:2]...), subOf(7, row[2:3]...), data(row[3:4]...)}
	got := Join(es)
	want := []Event{data(1, 2), subOf(7, 3), data(4)}
	if !bytes.Equal(row, []byte{1, 2, 3, 4, 5, 6}) || !same(es, []Event{data(1), data(2), subOf(7, 3), data(4)}) {
		t.Fatal("what is joined was changed")
	}
	spoil(row)
	if !same(got, want) {
		t.Fatalf("%v", got)
	}
	for i := range got {
		spoil(got[i].Bytes)
	}
	for i := range got {
		spoil(got[i].Bytes)
	}
	if !same(got, want) {
		t.Fatalf("the lists share: %v", got)
	}
}

func TestWriteMemory(t *testing.T) { // P5.1
	row := []byte{1, 255, 2, 3}
	for _, got := range [][]byte{Escape(row[:2]), Record(row[:2]), Tell(1, row[:2]), Write([]Event{data(row[:2]...)})} {
		spoil(got)
		if !bytes.Equal(row, []byte{1, 255, 2, 3}) {
			t.Fatal("what is written was changed")
		}
	}
}

func TestCopiedDecoder(t *testing.T) { // P5.1: what is fed to one isn't seen by the other
	var one Decoder
	one.Feed([]byte{255, 250, 24, 1})
	two := one
	one.Feed([]byte{2, 3})
	two.Feed([]byte{4})
	wantFeed(t, &one, []byte{255, 240}, false, subOf(24, 1, 2, 3))
	wantFeed(t, &two, []byte{255, 240}, false, subOf(24, 1, 4))
}
