package record

// What the layers up to this one do together: a connection's bytes, the talk, the device, records with headers.

import (
	"bytes"
	"math/rand"
	"slices"
	"testing"

	"greenscreen/api"
	"greenscreen/device"
	"greenscreen/header"
	"greenscreen/iac"
	"greenscreen/option"
	"greenscreen/talk"
)

// sameEvent tells whether two events are one, a nil list counting as an empty one.
func sameEvent(a, b iac.Event) bool {
	return a.Kind == b.Kind && a.Code == b.Code && a.Option == b.Option && bytes.Equal(a.Bytes, b.Bytes)
}

// connection is bytes of a host, and what they are.
type connection struct {
	bytes   []byte
	events  []iac.Event
	headers []header.Header
	rests   [][]byte
}

// between lays what is no record, and may come at any time.
func (c *connection) between(rng *rand.Rand) {
	for range rng.Intn(3) {
		o := []byte{0, 24, 25, 40, 99, 255}[rng.Intn(6)]
		var e iac.Event
		switch rng.Intn(4) {
		case 0:
			e = iac.Event{Kind: iac.Command, Code: 241}
		case 1:
			e = iac.Event{Kind: iac.Sub, Option: o, Bytes: [][]byte{{1}, {0, 255}, {255, 239}, nil}[rng.Intn(4)]}
		default:
			e = verb(byte(251+rng.Intn(4)), o)
		}
		c.events = append(c.events, e)
		c.bytes = append(c.bytes, iac.Write([]iac.Event{e})...)
	}
}

// record lays a record with a header, with something between its bytes.
func (c *connection) record(rng *rand.Rand) {
	h := header.Header{Type: byte(rng.Intn(9)), Request: byte(rng.Intn(2)), Response: []byte{0, 1, 2, 255}[rng.Intn(4)], Seq: uint16(rng.Intn(65536))}
	rest := slices.Concat(randomRecords(rng)...)
	b := header.Write(h, rest)
	at := rng.Intn(len(b) + 1)
	c.data(b[:at])
	c.between(rng)
	c.data(b[at:])
	c.events = append(c.events, end)
	c.bytes = append(c.bytes, 255, 239)
	c.headers, c.rests = append(c.headers, h), append(c.rests, rest)
}

func (c *connection) data(b []byte) {
	c.events = append(c.events, data(b...))
	c.bytes = append(c.bytes, iac.Escape(b)...)
}

// heard is what comes of a connection's parts.
type heard struct {
	events []iac.Event
	said   []byte
	talk   *talk.Talk
}

func hear(parts [][]byte) heard {
	h := heard{talk: talk.New("IBM-3278-2-E", true)}
	var d iac.Decoder
	for _, part := range parts {
		for _, e := range d.Feed(part) {
			h.events = append(h.events, e)
			h.said = append(h.said, h.talk.Take(e)...)
		}
	}
	return h
}

func TestHeadersAndVerbsCut(t *testing.T) { // P5.2, P7.1, P10.2
	rng := rand.New(rand.NewSource(5))
	for range 1500 {
		var c connection
		for range rng.Intn(5) {
			c.between(rng)
			c.record(rng)
		}
		whole := hear([][]byte{c.bytes})
		for _, parts := range [][][]byte{{c.bytes}, cut(rng, c.bytes), slices.Collect(slices.Chunk(c.bytes, 1))} {
			got := hear(parts)
			if !slices.EqualFunc(iac.Join(got.events), iac.Join(c.events), sameEvent) {
				t.Fatalf("%v in parts %v is %v", c.bytes, parts, got.events)
			}
			if !bytes.Equal(got.said, whole.said) || got.talk.Named() != whole.talk.Named() || got.talk.Extended() != whole.talk.Extended() {
				t.Fatalf("to %v in parts %v it says %v, not %v", c.bytes, parts, got.said, whole.said)
			}
			records, long := made(t, parts)
			wantHeaders(t, c, records, long)
		}
		records, long, e := Split(c.bytes)
		if e != api.OK {
			t.Fatalf("Split(%v): %d", c.bytes, e)
		}
		wantHeaders(t, c, records, long)
	}
}

// wantHeaders holds records against the headers, and what stood behind them, that were written.
func wantHeaders(t *testing.T, c connection, records [][]byte, long int) {
	t.Helper()
	if len(records) != len(c.headers) || long != 0 {
		t.Fatalf("%v: %d records, %d long", c.bytes, len(records), long)
	}
	for i, b := range records {
		h, rest, e := header.Parse(b)
		if h != c.headers[i] || !bytes.Equal(rest, c.rests[i]) || e != api.OK {
			t.Fatalf("record %d of %v: %+v %v %d", i, c.bytes, h, rest, e)
		}
	}
}

// terminal is the layers up to this one, at the end of a connection; a record whose first byte isn't F1 is no command of it.
type terminal struct {
	in      iac.Decoder
	talk    *talk.Talk
	device  *device.Device
	maker   Maker
	records [][]byte
}

func newTerminal() *terminal {
	k := talk.New("IBM-3278-2-E", true)
	return &terminal{talk: k, device: device.New(k.Name(), "LU1", []byte{4, 2})}
}

func (x *terminal) hear(t *testing.T, b []byte) []byte {
	var said []byte
	for _, e := range x.in.Feed(b) {
		said = append(said, x.talk.Take(e)...)
		if e.Kind == iac.Sub && e.Option == 40 && x.talk.Extended() {
			if answer, err := x.device.Take(e.Bytes); err != api.OK {
				t.Fatalf("%v: %d", e, err)
			} else if len(answer) > 0 {
				said = append(said, iac.Tell(40, answer)...)
			}
		}
		if b, ended, err := x.maker.Take(e); ended {
			said = append(said, x.run(t, b, err)...)
		}
	}
	return said
}

// run is the answer to a record.
func (x *terminal) run(t *testing.T, b []byte, err api.Errno) []byte {
	h, rest, bad := header.Parse(b)
	if err != api.OK || bad != api.OK || x.device.State() != device.Done {
		t.Fatalf("a record of %d bytes: %d, %d, the device in state %d", len(b), err, bad, x.device.State())
	}
	x.records = append(x.records, rest)
	outcome := api.ErrCommand
	if len(rest) > 0 && rest[0] == 0xF1 {
		outcome = api.OK
	}
	if answer, ok := header.Answer(h, outcome); ok {
		return iac.Record(answer)
	}
	return nil
}

// host is the other side: it wants an extended terminal, and then sends records.
type host struct {
	in      iac.Decoder
	options *option.Options
	words   int // verbs that it said, or that came to it
	name    []byte
	counter header.Counter
	send    [][]byte
	maker   Maker
	answers []bool
}

// begin is what it says first: all its wishes.
func (x *host) begin(t *testing.T) []byte {
	var said []byte
	for _, wish := range []iac.Event{verb(option.Do, 24), verb(option.Do, 40), verb(option.Do, 25), verb(option.Will, 25), verb(option.Do, 0), verb(option.Will, 0), verb(option.Do, 99)} {
		b, e := x.options.Want(wish.Code, wish.Option)
		if e != api.OK {
			t.Fatalf("Want(%d, %d): %d", wish.Code, wish.Option, e)
		}
		x.words++
		said = append(said, b...)
	}
	return said
}

func (x *host) hear(t *testing.T, b []byte) []byte {
	var said []byte
	for _, e := range x.in.Feed(b) {
		switch {
		case e.Kind == iac.Verb:
			said = append(said, x.verb(e)...)
		case e.Kind == iac.Sub && e.Option == 24:
			x.name = e.Bytes
		case e.Kind == iac.Sub && e.Option == 40:
			said = append(said, x.choose(t, e.Bytes)...)
		}
		if b, ended, err := x.maker.Take(e); ended {
			x.answer(t, b, err)
		}
	}
	return said
}

// verb is layer 6's word, and what it asks for as soon as it may.
func (x *host) verb(e iac.Event) []byte {
	was := x.options.On(false, e.Option)
	said := x.options.Got(e.Code, e.Option)
	x.words++
	if len(said) > 0 {
		x.words++
	}
	if !was && x.options.On(false, e.Option) {
		switch e.Option {
		case 24:
			said = append(said, iac.Tell(24, []byte{1})...)
		case 40:
			said = append(said, iac.Tell(40, []byte{8, 2})...)
		}
	}
	return said
}

// choose is what it says of devices and functions; behind these its records.
func (x *host) choose(t *testing.T, b []byte) []byte {
	switch {
	case string(b) == "\x02\x07IBM-3278-2-E\x01LU1":
		return iac.Tell(40, []byte("\x02\x04IBM-3278-2-E\x01LU1"))
	case string(b) == "\x03\x07\x02\x04":
		said := iac.Tell(40, []byte{3, 4, 2})
		for _, rest := range x.send {
			h := header.Header{Response: 2, Seq: x.counter.Next()}
			said = append(said, iac.Record(header.Write(h, rest))...)
		}
		return said
	default:
		t.Fatalf("the terminal says %v", b)
		return nil
	}
}

// answer takes the answer to a record.
func (x *host) answer(t *testing.T, b []byte, err api.Errno) {
	h, rest, bad := header.Parse(b)
	code, well, ok := header.Sense(h, rest)
	if err != api.OK || bad != api.OK || !ok || code != 0 || !x.counter.Got(h.Seq) {
		t.Fatalf("the answer is %v", b)
	}
	x.answers = append(x.answers, well)
}

// parts hands bytes on in parts of so many, and lays together what is said to them.
func parts(t *testing.T, b []byte, many int, hear func(*testing.T, []byte) []byte) []byte {
	var said []byte
	for part := range slices.Chunk(b, many) {
		said = append(said, hear(t, part)...)
	}
	return said
}

func TestTerminalTalksWithHost(t *testing.T) { // P5.2, P6.2, P7.1, P10.2
	send := [][]byte{{0xF1, 0xC3, 255, 239}, nil, {0xF1}, {255, 255}, bytes.Repeat([]byte{0xF1, 255}, 4000), {0xF1, 0, 239}}
	var first []byte
	for _, many := range []int{1 << 20, 1, 2, 3, 5, 7, 100} {
		here, there := newTerminal(), &host{options: option.New([]byte{0, 25}, nil), send: send}
		var all []byte
		for said := there.begin(t); len(said) > 0; {
			answer := parts(t, said, many, here.hear)
			all = append(all, answer...)
			said = parts(t, answer, many, there.hear)
		}
		if here.in.Open() || there.in.Open() || here.maker.Len() != 0 || there.maker.Len() != 0 {
			t.Fatal("something isn't at its end")
		}
		wantAgreed(t, here, there)
		if !slices.EqualFunc(here.records, send, bytes.Equal) || !slices.Equal(there.answers, []bool{true, false, true, false, true, true}) || there.counter.Pending() != 0 {
			t.Fatalf("in parts of %d: %d records, answers %v, %d pending", many, len(here.records), there.answers, there.counter.Pending())
		}
		if first == nil {
			first = all
		}
		if !bytes.Equal(all, first) {
			t.Fatalf("in parts of %d it says %v, not %v", many, all, first)
		}
	}
}

// wantAgreed holds both sides against each other: they agree, and took no more than two words a wish for it.
func wantAgreed(t *testing.T, here *terminal, there *host) {
	t.Helper()
	for o := range 256 {
		b := byte(o)
		if here.talk.Options().On(true, b) != there.options.On(false, b) || here.talk.Options().On(false, b) != there.options.On(true, b) {
			t.Fatalf("of option %d they don't agree", o)
		}
	}
	if there.options.Busy() || here.talk.Options().Busy() || there.words > 2*7 || there.options.On(false, 99) {
		t.Fatalf("they aren't at rest behind %d words", there.words)
	}
	if !here.talk.Basic() || !here.talk.Extended() || string(there.name) != "\x00IBM-3278-2-E" {
		t.Fatalf("the terminal is basic: %t, extended: %t, and told %q", here.talk.Basic(), here.talk.Extended(), there.name)
	}
	if d := here.device; d.State() != device.Done || d.Type() != "IBM-3278-2-E" || d.Unit() != "LU1" || !bytes.Equal(d.Functions(), []byte{2}) {
		t.Fatalf("the device is in state %d", d.State())
	}
}
