package header

import (
	"bytes"
	"math/rand"
	"slices"
	"testing"

	"greenscreen/api"
)

// errnos is OK, every other error there is, and numbers that are none.
var errnos = []api.Errno{
	api.OK, api.ErrArg, api.ErrLong, api.ErrMany, api.ErrNone, api.ErrTwice, api.ErrFull, api.ErrShort, api.ErrForm,
	api.ErrCommand, api.ErrOrder, api.ErrAddress, api.ErrAttr, api.ErrStruct, api.ErrLocked, api.ErrProtected, api.ErrNumeric, api.ErrOver,
	api.ErrSign, api.ErrWord, api.ErrDeep, api.ErrName, api.ErrKind, api.ErrFuel, api.ErrTime, api.ErrGone, api.ErrBad,
	-1, 7, 29, 256 + 30, 1 << 30,
}

func wantParse(t *testing.T, b []byte, want Header, rest ...byte) {
	t.Helper()
	h, behind, e := Parse(b)
	if h != want || !bytes.Equal(behind, rest) || e != api.OK {
		t.Fatalf("Parse(%v) = %+v %v %d, not %+v %v", b, h, behind, e, want, rest)
	}
}

func wantNoParse(t *testing.T, b []byte, want api.Errno) {
	t.Helper()
	if h, rest, e := Parse(b); h != (Header{}) || len(rest) != 0 || e != want {
		t.Fatalf("Parse(%v) = %+v %v %d, not %d", b, h, rest, e, want)
	}
}

func wantAnswer(t *testing.T, h Header, e api.Errno, want ...byte) {
	t.Helper()
	if b, ok := Answer(h, e); !bytes.Equal(b, want) || ok != (len(want) > 0) {
		t.Fatalf("Answer(%+v, %d) = %v %t, not %v", h, e, b, ok, want)
	}
}

func TestExample(t *testing.T) { // P9.1: the fifth example of the whole, too
	if Len != 5 {
		t.Fatalf("Len is %d", Len)
	}
	h := Header{Type: 0, Response: 2, Seq: 7}
	wantParse(t, []byte{0, 0, 2, 0, 7, 0xF1}, h, 0xF1)
	wantAnswer(t, h, api.OK, 2, 0, 0, 0, 7, 0)
}

func TestParseTypes(t *testing.T) { // P9.1: 0 to 8, and no others
	for kind := range 256 {
		b := []byte{byte(kind), 1, 2, 3, 4, 5}
		if kind > 8 {
			wantNoParse(t, b, api.ErrForm)
			wantNoParse(t, b[:5], api.ErrForm)
			wantNoParse(t, b[:4], api.ErrShort) // that is looked for first
			continue
		}
		wantParse(t, b, Header{Type: byte(kind), Request: 1, Response: 2, Seq: 0x0304}, 5)
	}
}

func TestParseLengths(t *testing.T) { // P9.1: four bytes are none, five are a header, more stand behind it
	wantNoParse(t, nil, api.ErrShort)
	wantNoParse(t, []byte{}, api.ErrShort)
	b := []byte{0, 1, 2, 3, 4, 5, 6, 7}
	h := Header{Type: 0, Request: 1, Response: 2, Seq: 0x0304}
	for many := range len(b) + 1 {
		if many < 5 {
			wantNoParse(t, b[:many], api.ErrShort)
			continue
		}
		wantParse(t, b[:many], h, b[5:many]...)
	}
	long := bytes.Repeat([]byte{255}, 20000)
	wantParse(t, append(b[:5:5], long...), h, long...)
}

func TestParseFields(t *testing.T) { // P9.1: every byte of each, the number's higher first
	for x := range 256 {
		b := byte(x)
		wantParse(t, []byte{8, b, 0, 0, 0}, Header{Type: 8, Request: b})
		wantParse(t, []byte{1, 0, b, 0, 0}, Header{Type: 1, Response: b})
		wantParse(t, []byte{0, 0, 0, b, 0}, Header{Seq: uint16(x) * 256})
		wantParse(t, []byte{0, 0, 0, 0, b}, Header{Seq: uint16(x)})
	}
	wantParse(t, []byte{0, 0, 0, 255, 255}, Header{Seq: 65535})
	wantParse(t, []byte{0, 0, 0, 0x7F, 0xFF}, Header{Seq: 32767})
}

func TestWrite(t *testing.T) { // P9.1: whatever it has, as it stands
	for _, c := range []struct {
		h    Header
		rest []byte
		want []byte
	}{
		{Header{}, nil, []byte{0, 0, 0, 0, 0}},
		{Header{}, []byte{}, []byte{0, 0, 0, 0, 0}},
		{Header{Type: 1, Request: 2, Response: 3, Seq: 0x0405}, []byte{6, 7}, []byte{1, 2, 3, 4, 5, 6, 7}},
		{Header{Type: 8, Request: 255, Response: 254, Seq: 65535}, []byte{255}, []byte{8, 255, 254, 255, 255, 255}},
		{Header{Type: 9, Seq: 256}, nil, []byte{9, 0, 0, 1, 0}},
		{Header{Type: 255, Seq: 255}, nil, []byte{255, 0, 0, 0, 255}},
	} {
		if got := Write(c.h, c.rest); !bytes.Equal(got, c.want) {
			t.Errorf("Write(%+v, %v) = %v", c.h, c.rest, got)
		}
	}
}

func TestWrittenIsParsed(t *testing.T) { // P9.2
	rng := rand.New(rand.NewSource(9))
	for range 5000 {
		h := Header{Type: byte(rng.Intn(9)), Request: byte(rng.Intn(256)), Response: byte(rng.Intn(256)), Seq: uint16(rng.Intn(65536))}
		rest := make([]byte, rng.Intn(12))
		rng.Read(rest)
		wantParse(t, Write(h, rest), h, rest...)
	}
	for seq := range 65536 {
		h := Header{Type: 5, Seq: uint16(seq)}
		wantParse(t, Write(h, []byte{0}), h, 0)
	}
}

func TestCode(t *testing.T) { // P9.1
	for _, e := range errnos {
		want := byte(2)
		if e == 30 {
			want = 0
		}
		if got := Code(e); got != want {
			t.Errorf("Code(%d) = %d, not %d", e, got, want)
		}
	}
}

func TestAnswer(t *testing.T) { // P9.1: each response flag with each outcome
	for _, kind := range []byte{0, 1} {
		for flag := range 256 {
			h := Header{Type: kind, Request: 9, Response: byte(flag), Seq: 0x1234}
			for _, e := range errnos {
				switch {
				case e == api.OK && flag == 2:
					wantAnswer(t, h, e, 2, 0, 0, 0x12, 0x34, 0)
				case e != api.OK && (flag == 1 || flag == 2):
					wantAnswer(t, h, e, 2, 0, 1, 0x12, 0x34, Code(e))
				default:
					wantAnswer(t, h, e)
				}
			}
		}
	}
	wantAnswer(t, Header{Response: 1, Seq: 7}, api.ErrCommand, 2, 0, 1, 0, 7, 0)
	wantAnswer(t, Header{Response: 2, Seq: 7}, api.ErrOrder, 2, 0, 1, 0, 7, 2)
}

func TestAnswerOfOtherTypes(t *testing.T) { // P9.1: of DATA and SCS alone
	for kind := 2; kind < 256; kind++ {
		for flag := range 4 {
			for _, e := range errnos {
				wantAnswer(t, Header{Type: byte(kind), Response: byte(flag), Seq: 1}, e)
			}
		}
	}
}

func TestAnswerIsResponse(t *testing.T) { // P9.2: of that number, and it says what the outcome was
	for seq := range 65536 {
		for _, e := range []api.Errno{api.OK, api.ErrCommand, api.ErrAddress} {
			b, ok := Answer(Header{Response: 2, Request: 3, Seq: uint16(seq)}, e)
			h, rest, bad := Parse(b)
			if !ok || bad != api.OK || h.Type != 2 || h.Request != 0 || h.Seq != uint16(seq) {
				t.Fatalf("the answer to %d is %v", seq, b)
			}
			code, well, ok := Sense(h, rest)
			if !ok || well != (e == api.OK) || !well && code != Code(e) || well && code != 0 {
				t.Fatalf("the answer %v to %d says %d %t %t", b, seq, code, well, ok)
			}
			if again, ok := Answer(h, e); ok {
				t.Fatalf("the answer is answered: %v", again)
			}
		}
	}
}

func TestSense(t *testing.T) { // P9.1: no byte, one and two, other flags, other types
	for kind := range 256 {
		for flag := range 256 {
			h := Header{Type: byte(kind), Request: byte(flag), Response: byte(flag), Seq: 65535}
			for _, rest := range [][]byte{nil, {}, {0}, {2}, {7}, {255}, {0, 0}, {7, 8}, {1, 2, 3}} {
				code, well, ok := Sense(h, rest)
				if kind == 2 && flag < 2 && len(rest) == 1 {
					if code != rest[0] || well != (flag == 0) || !ok {
						t.Fatalf("Sense(%+v, %v) = %d %t %t", h, rest, code, well, ok)
					}
				} else if code != 0 || well || ok {
					t.Fatalf("Sense(%+v, %v) = %d %t %t", h, rest, code, well, ok)
				}
			}
		}
	}
	for x := range 256 {
		if code, well, ok := Sense(Header{Type: 2, Response: 1}, []byte{byte(x)}); int(code) != x || well || !ok {
			t.Fatalf("the byte %d is %d %t %t", x, code, well, ok)
		}
	}
}

func wantNext(t *testing.T, c *Counter, want uint16, pending int) {
	t.Helper()
	if got := c.Next(); got != want || c.Pending() != pending {
		t.Fatalf("Next() = %d, %d pending, not %d, %d", got, c.Pending(), want, pending)
	}
}

func wantGot(t *testing.T, c *Counter, seq uint16, want bool, pending int) {
	t.Helper()
	if got := c.Got(seq); got != want || c.Pending() != pending {
		t.Fatalf("Got(%d) = %t, %d pending, not %t, %d", seq, got, c.Pending(), want, pending)
	}
}

func TestCounter(t *testing.T) { // P9.1: answers to numbers that wait, that don't, and that did
	var c Counter
	if c.Pending() != 0 {
		t.Fatal("at first something is pending")
	}
	wantGot(t, &c, 0, false, 0)
	wantNext(t, &c, 0, 1)
	wantNext(t, &c, 1, 2)
	wantNext(t, &c, 2, 3)
	wantGot(t, &c, 3, false, 3)
	wantGot(t, &c, 65535, false, 3)
	wantGot(t, &c, 32768, false, 3)
	wantGot(t, &c, 1, true, 2)
	wantGot(t, &c, 1, false, 2)
	wantNext(t, &c, 3, 3)
	wantGot(t, &c, 0, true, 2)
	wantGot(t, &c, 3, true, 1)
	wantGot(t, &c, 2, true, 0)
	wantGot(t, &c, 2, false, 0)
	wantNext(t, &c, 4, 1)
}

func TestCounterGoesRound(t *testing.T) { // P9.1: behind 32767 comes 0
	var c Counter
	for round := range 3 {
		for seq := range 32768 {
			wantNext(t, &c, uint16(seq), min(64, round*32768+seq+1))
		}
	}
	for seq := range 65536 {
		if c.Got(uint16(seq)) != (seq >= 32768-64 && seq < 32768) {
			t.Fatalf("Got(%d)", seq)
		}
	}
	for seq := range 40000 { // answered at once
		wantNext(t, &c, uint16(seq%32768), 1)
		wantGot(t, &c, uint16(seq%32768), true, 0)
	}
}

func TestCounterWaitsForTheLast(t *testing.T) { // P9.1: more than 64 that wait, the eldest goes
	var c Counter
	for seq := range 64 {
		wantNext(t, &c, uint16(seq), seq+1)
	}
	wantNext(t, &c, 64, 64)
	wantGot(t, &c, 0, false, 64)
	wantNext(t, &c, 65, 64)
	wantGot(t, &c, 1, false, 64)
	wantGot(t, &c, 2, true, 63)
	wantGot(t, &c, 65, true, 62)
	// Those that wait count, not those that were given last: 3 waits on.
	wantNext(t, &c, 66, 63)
	wantNext(t, &c, 67, 64)
	wantGot(t, &c, 40, true, 63)
	wantNext(t, &c, 68, 64)
	wantNext(t, &c, 69, 64)
	wantGot(t, &c, 3, false, 64)
	wantGot(t, &c, 4, true, 63)
	for seq := 5; seq < 70; seq++ {
		if waits := seq != 40 && seq != 65; c.Got(uint16(seq)) != waits {
			t.Fatalf("Got(%d) isn't %t", seq, waits)
		}
	}
	if c.Pending() != 0 {
		t.Fatalf("%d are pending at last", c.Pending())
	}
}

func TestCounterGivesAgain(t *testing.T) { // P9.1: a number that waits since its last turn isn't pending any more behind one answer
	var c Counter
	wantNext(t, &c, 0, 1)
	for range 32767 {
		c.Got(c.Next())
	}
	wantNext(t, &c, 0, 1)
	wantGot(t, &c, 0, true, 0)
	wantGot(t, &c, 0, false, 0)
}

func TestCounterAtRandom(t *testing.T) { // P9.1: held against a list of all that wait
	rng := rand.New(rand.NewSource(64))
	for range 200 {
		var c Counter
		var waiting []uint16
		given := 0
		for range 600 {
			if rng.Intn(5) > 1 {
				waiting = append(waiting, uint16(given))
				waiting = waiting[max(0, len(waiting)-64):]
				wantNext(t, &c, uint16(given), len(waiting))
				given++
				continue
			}
			seq := uint16(max(0, given-rng.Intn(100)))
			at := slices.Index(waiting, seq)
			if at >= 0 {
				waiting = slices.Delete(waiting, at, at+1)
			}
			wantGot(t, &c, seq, at >= 0, len(waiting))
		}
	}
}

func TestMemory(t *testing.T) { // P9.1: what is handed in isn't changed, what is answered is new
	whole := []byte{1, 2, 0, 4, 5, 6, 7, 8, 9}
	b := whole[:7]
	h, rest, _ := Parse(b)
	scribble(rest)
	if h.Response = 2; !bytes.Equal(whole, []byte{1, 2, 0, 4, 5, 6, 7, 8, 9}) {
		t.Fatal("Parse shares memory")
	}
	written := Write(h, b[5:])
	scribble(written)
	if !bytes.Equal(whole, []byte{1, 2, 0, 4, 5, 6, 7, 8, 9}) {
		t.Fatal("Write shares memory")
	}
	first, _ := Answer(h, api.OK)
	scribble(first)
	wantAnswer(t, h, api.OK, 2, 0, 0, 4, 5, 0)
	whole[7] = 1
	_, rest, _ = Parse(whole)
	scribble(whole)
	if !bytes.Equal(rest, []byte{6, 7, 1, 9}) {
		t.Fatal("Parse keeps what it was given")
	}
}

// scribble writes over all of a list's memory.
func scribble(b []byte) {
	b = b[:cap(b)]
	for i := range b {
		b[i] = 'z'
	}
}
