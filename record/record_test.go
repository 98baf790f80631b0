package record

import (
	"bytes"
	"math/rand"
	"slices"
	"testing"

	"greenscreen/api"
	"greenscreen/iac"
)

func data(b ...byte) iac.Event { return iac.Event{Kind: iac.Data, Bytes: b} }

func verb(code, option byte) iac.Event {
	return iac.Event{Kind: iac.Verb, Code: code, Option: option}
}

var end = iac.Event{Kind: iac.End}

// counted is so many bytes, from a first one on, of all numbers.
func counted(first, many int) []byte {
	b := make([]byte, many)
	for i := range b {
		b[i] = byte(first + i)
	}
	return b
}

// wantNone hands in an event that brings no record to its end.
func wantNone(t *testing.T, m *Maker, e iac.Event, many int, long bool) {
	t.Helper()
	b, ended, err := m.Take(e)
	if len(b) != 0 || ended || err != api.OK || m.Len() != many || m.Long() != long {
		t.Fatalf("Take of kind %d: %d bytes, %t, %d; it has %d, long: %t, not %d, %t", e.Kind, len(b), ended, err, m.Len(), m.Long(), many, long)
	}
}

// wantRecord hands in an end.
func wantRecord(t *testing.T, m *Maker, want []byte, wantErr api.Errno) {
	t.Helper()
	b, ended, err := m.Take(end)
	if !bytes.Equal(b, want) || !ended || err != wantErr || m.Len() != 0 || m.Long() {
		t.Fatalf("Take of an end: %d bytes, %t, %d, not %d, %d; then it has %d, long: %t", len(b), ended, err, len(want), wantErr, m.Len(), m.Long())
	}
}

func wantAll(t *testing.T, es []iac.Event, long int, want ...[]byte) {
	t.Helper()
	if got, n := All(es); !slices.EqualFunc(got, want, bytes.Equal) || n != long {
		t.Fatalf("All: %d records, %d long, not %d, %d", len(got), n, len(want), long)
	}
}

func wantSplit(t *testing.T, b []byte, long int, want ...[]byte) {
	t.Helper()
	if got, n, e := Split(b); !slices.EqualFunc(got, want, bytes.Equal) || n != long || e != api.OK {
		t.Fatalf("Split of %d bytes: %d records, %d long, %d, not %d, %d", len(b), len(got), n, e, len(want), long)
	}
}

func wantShort(t *testing.T, b []byte) {
	t.Helper()
	if got, n, e := Split(b); len(got) != 0 || n != 0 || e != api.ErrShort {
		t.Fatalf("Split(%v) = %v %d %d", b, got, n, e)
	}
}

func TestExample(t *testing.T) { // P10.1
	var m Maker
	wantNone(t, &m, data(1), 1, false)
	wantNone(t, &m, data(2), 2, false)
	wantRecord(t, &m, []byte{1, 2}, api.OK)
}

func TestEmptyRecords(t *testing.T) { // P10.1
	var m Maker
	if m.Len() != 0 || m.Long() || m.Drop() != 0 {
		t.Fatal("at first something came")
	}
	wantRecord(t, &m, nil, api.OK)
	wantNone(t, &m, data(), 0, false)
	wantRecord(t, &m, nil, api.OK)
	wantNone(t, &m, data(9), 1, false)
	wantRecord(t, &m, []byte{9}, api.OK)
	wantRecord(t, &m, nil, api.OK)
	wantAll(t, []iac.Event{end, data(), end, data(3), end, end}, 0, nil, nil, []byte{3}, nil)
}

func TestAtTheBound(t *testing.T) { // P10.1, P10.3: laid in one event, and in many
	for _, many := range []int{0, 1, 8190, 8191, 8192, 8193, 8194, 16384, 16385, 30000} {
		b := counted(7, many)
		kept := min(many, 8192)
		for _, piece := range []int{1, 2, 5, 255, 4096, 8191, 8192, 8193, 40000} {
			var m Maker
			for at := 0; at < many; at += piece {
				laid := min(many, at+piece)
				wantNone(t, &m, data(b[at:laid]...), min(laid, 8192), laid > 8192)
			}
			wantNone(t, &m, data(), kept, many > 8192) // nothing more doesn't make it long
			if many > 8192 {
				wantRecord(t, &m, nil, api.ErrLong)
			} else {
				wantRecord(t, &m, b, api.OK)
			}
			wantNone(t, &m, data(1, 2), 2, false) // what comes behind is a record like any other
			wantRecord(t, &m, []byte{1, 2}, api.OK)
		}
	}
}

func TestLongStaysLong(t *testing.T) { // P10.1: up to its end
	var m Maker
	wantNone(t, &m, data(counted(0, 8192)...), 8192, false)
	wantNone(t, &m, verb(253, 25), 8192, false)
	wantNone(t, &m, data(9), 8192, true)
	wantNone(t, &m, verb(253, 25), 8192, true)
	wantNone(t, &m, data(), 8192, true)
	wantNone(t, &m, data(9, 9), 8192, true)
	wantRecord(t, &m, nil, api.ErrLong)
	wantRecord(t, &m, nil, api.OK)
}

func TestDrop(t *testing.T) { // P10.1: what is let go, and what comes behind it
	for _, many := range []int{0, 1, 5, 8191, 8192, 8193, 20000} {
		var m Maker
		m.Take(data(counted(0, many)...))
		if got := m.Drop(); got != min(many, 8192) || m.Len() != 0 || m.Long() {
			t.Fatalf("Drop() = %d of %d; then it has %d, long: %t", got, many, m.Len(), m.Long())
		}
		if got := m.Drop(); got != 0 {
			t.Fatalf("Drop() = %d, twice", got)
		}
		wantNone(t, &m, data(4, 5), 2, false)
		wantRecord(t, &m, []byte{4, 5}, api.OK)
		if got := m.Drop(); got != 0 {
			t.Fatalf("Drop() = %d behind an end", got)
		}
		wantNone(t, &m, data(counted(1, 8192)...), 8192, false)
		wantRecord(t, &m, counted(1, 8192), api.OK)
	}
}

// between is events of each kind that is neither data nor an end, and of none, with all that they could have.
func between() []iac.Event {
	var es []iac.Event
	for _, kind := range []int{iac.Command, iac.Verb, iac.Sub, iac.Long, iac.Bad, 0, -1, 8, 99} {
		es = append(es, iac.Event{Kind: kind, Code: 239, Option: 25, Bytes: []byte{1, 2, 255, 239}})
	}
	return es
}

func TestEventsBetween(t *testing.T) { // P10.1: they are passed over, wherever they come
	for _, e := range between() {
		var m Maker
		wantNone(t, &m, e, 0, false)
		wantNone(t, &m, data(1), 1, false)
		wantNone(t, &m, e, 1, false)
		wantNone(t, &m, data(2), 2, false)
		wantNone(t, &m, e, 2, false)
		wantRecord(t, &m, []byte{1, 2}, api.OK)
		wantNone(t, &m, e, 0, false)
		wantAll(t, []iac.Event{e, data(1), e, data(2), e, end, e, end, e}, 0, []byte{1, 2}, nil)
	}
	// What Data and End have beside what counts says nothing.
	var m Maker
	wantNone(t, &m, iac.Event{Kind: iac.Data, Code: 239, Option: 3, Bytes: []byte{7}}, 1, false)
	b, ended, e := m.Take(iac.Event{Kind: iac.End, Code: 1, Option: 2, Bytes: []byte{8}})
	if !bytes.Equal(b, []byte{7}) || !ended || e != api.OK {
		t.Fatalf("%v %t %d", b, ended, e)
	}
}

func TestAll(t *testing.T) { // P10.1: in order; long ones are counted, not told; one without its end is neither
	long := data(counted(0, 8193)...)
	whole := data(counted(5, 8192)...)
	wantAll(t, nil, 0)
	wantAll(t, []iac.Event{}, 0)
	wantAll(t, []iac.Event{data(1)}, 0)
	wantAll(t, []iac.Event{long}, 0)
	wantAll(t, []iac.Event{data(1), end, data(2), data(3), end, data(4)}, 0, []byte{1}, []byte{2, 3})
	wantAll(t, []iac.Event{long, end}, 1)
	wantAll(t, []iac.Event{data(1), end, long, end, data(2), end, whole, end, whole, data(0), end, long}, 2, []byte{1}, []byte{2}, whole.Bytes)
}

func TestSplit(t *testing.T) { // P10.1
	wantSplit(t, nil, 0)
	wantSplit(t, []byte{}, 0)
	wantSplit(t, []byte{255, 239}, 0, nil)
	wantSplit(t, []byte{255, 239, 255, 239}, 0, nil, nil)
	wantSplit(t, []byte{1, 2, 255, 239, 255, 255, 255, 239}, 0, []byte{1, 2}, []byte{255})
	wantSplit(t, []byte{239, 255, 255, 239, 255, 239}, 0, []byte{239, 255, 239})
	// What isn't data is passed over, within a record too.
	wantSplit(t, []byte{255, 253, 25, 1, 255, 241, 2, 255, 250, 24, 1, 255, 240, 3, 255, 239}, 0, []byte{1, 2, 3})
	wantSplit(t, []byte{1, 255, 250, 24, 255, 239, 2, 255, 239}, 0, []byte{1}, []byte{2}) // an end in a subnegotiation ends both
	for _, c := range []struct{ many, long int }{{8191, 0}, {8192, 0}, {8193, 1}} {
		b := slices.Concat([]byte{1, 255, 239}, iac.Record(counted(3, c.many)), []byte{2, 255, 239})
		if c.long == 0 {
			wantSplit(t, b, 0, []byte{1}, counted(3, c.many), []byte{2})
		} else {
			wantSplit(t, b, 1, []byte{1}, []byte{2})
		}
	}
}

func TestSplitThatEndsTooEarly(t *testing.T) { // P10.1: the end is no record's end, or stands within something
	for _, ahead := range [][]byte{nil, {1, 255, 239}, {255, 239}, iac.Record(make([]byte, 9000))} {
		for _, behind := range [][]byte{
			{1}, {239}, {240}, {1, 255, 255}, {255}, {1, 255}, // data, or something begun
			{255, 251}, {255, 252}, {255, 253}, {255, 254}, {255, 250}, {255, 250, 24}, {255, 250, 24, 1}, {255, 250, 24, 255},
			{255, 250, 24, 239}, {255, 250, 24, 255, 255}, {255, 250, 255, 250}, {255, 250, 1, 255, 253},
			{255, 253, 25}, {255, 241}, {255, 240}, {255, 250, 24, 1, 255, 240}, // something at its end, but no record
			{255, 250, 24, 255, 241}, {1, 255, 253, 25},
			make([]byte, 9000),
		} {
			wantShort(t, slices.Concat(ahead, behind))
		}
	}
}

func TestCutOffEverywhere(t *testing.T) { // P10.1: of a connection cut off at each of its places
	whole := slices.Concat([]byte{255, 253, 25}, iac.Record([]byte{1, 255, 2}), iac.Tell(24, []byte{1}), iac.Record(nil), []byte{255, 241}, iac.Record([]byte{3}))
	records := [][]byte{{1, 255, 2}, nil, {3}}
	ends := map[int]int{0: 0, 9: 1, 17: 2, 22: 3}
	for at := range len(whole) + 1 {
		if many, ok := ends[at]; ok {
			wantSplit(t, whole[:at], 0, records[:many]...)
		} else {
			wantShort(t, whole[:at])
		}
	}
	if len(whole) != 22 {
		t.Fatalf("%d bytes", len(whole))
	}
}

// randomRecords is some records, many of whose bytes are 255 and other bytes that mean something.
func randomRecords(rng *rand.Rand) [][]byte {
	records := make([][]byte, rng.Intn(6))
	for i := range records {
		records[i] = make([]byte, rng.Intn(9))
		for at := range records[i] {
			records[i][at] = []byte{255, 239, 240, 250, 253, 0, 1, 25}[rng.Intn(8)]
		}
	}
	return records
}

// cut is bytes in parts.
func cut(rng *rand.Rand, b []byte) [][]byte {
	var parts [][]byte
	for len(b) > 0 {
		at := rng.Intn(len(b) + 1)
		parts = append(parts, b[:at])
		b = b[at:]
	}
	return append(parts, nil)
}

// made is the records that a decoder and a maker tell of parts, and how many were long.
func made(t *testing.T, parts [][]byte) ([][]byte, int) {
	t.Helper()
	var d iac.Decoder
	var m Maker
	var records [][]byte
	long := 0
	for _, part := range parts {
		for _, e := range d.Feed(part) {
			b, ended, err := m.Take(e)
			if m.Len() > api.MaxRecord || len(b) > api.MaxRecord || ended != (e.Kind == iac.End) || err != api.OK && err != api.ErrLong {
				t.Fatalf("it has %d bytes, and tells %d, %t, %d", m.Len(), len(b), ended, err)
			}
			switch {
			case err == api.ErrLong:
				long++
			case ended:
				records = append(records, b)
			}
		}
	}
	return records, long
}

func TestWrittenIsTold(t *testing.T) { // P10.2: one behind the other, cut into whatever parts
	rng := rand.New(rand.NewSource(10))
	for range 3000 {
		records := randomRecords(rng)
		var written []byte
		for _, b := range records {
			written = append(written, iac.Record(b)...)
		}
		wantSplit(t, written, 0, records...)
		var d iac.Decoder
		var es []iac.Event
		parts := cut(rng, written)
		for _, part := range parts {
			es = append(es, d.Feed(part)...)
		}
		wantAll(t, es, 0, records...)
		wantAll(t, iac.Join(es), 0, records...)
		if got, long := made(t, parts); !slices.EqualFunc(got, records, bytes.Equal) || long != 0 {
			t.Fatalf("%v in parts %v is %v", records, parts, got)
		}
	}
}

func TestCutOnceAndTwice(t *testing.T) { // P10.2: at every place
	records := [][]byte{{255}, nil, {1, 239}, {255, 255, 239}}
	var written []byte
	for _, b := range records {
		written = append(written, iac.Record(b)...)
	}
	for i := range len(written) + 1 {
		for j := i; j <= len(written); j++ {
			got, long := made(t, [][]byte{written[:i], written[i:j], written[j:]})
			if !slices.EqualFunc(got, records, bytes.Equal) || long != 0 {
				t.Fatalf("cut at %d and %d: %v", i, j, got)
			}
		}
	}
}

func TestGreatRecordsCut(t *testing.T) { // P10.2, P10.3: at the bound, of bytes that are all written twice too
	rng := rand.New(rand.NewSource(8192))
	for _, fill := range []byte{0, 255} {
		var written []byte
		var want [][]byte
		for _, many := range []int{8191, 8192, 8193, 1, 9000, 8192} {
			b := bytes.Repeat([]byte{fill}, many)
			written = append(written, iac.Record(b)...)
			if many <= 8192 {
				want = append(want, b)
			}
		}
		wantSplit(t, written, 2, want...)
		for _, parts := range [][][]byte{{written}, cut(rng, written), slices.Collect(slices.Chunk(written, 1)), slices.Collect(slices.Chunk(written, 8193))} {
			if got, long := made(t, parts); !slices.EqualFunc(got, want, bytes.Equal) || long != 2 {
				t.Fatalf("of %d, in %d parts: %d records, %d long", fill, len(parts), len(got), long)
			}
		}
	}
}

func TestNeverMore(t *testing.T) { // P10.3: in every order of events
	rng := rand.New(rand.NewSource(3))
	others := between()
	var m Maker
	has, long := 0, false
	for range 20000 {
		switch rng.Intn(8) {
		case 0:
			b, ended, err := m.Take(end)
			want := api.OK
			if long {
				want, has = api.ErrLong, 0
			}
			if len(b) != has || !ended || err != want {
				t.Fatalf("%d bytes, %t, %d, not %d, %d", len(b), ended, err, has, want)
			}
			has, long = 0, false
		case 1:
			m.Take(others[rng.Intn(len(others))])
		case 2:
			if rng.Intn(4) == 0 {
				if got := m.Drop(); got != has {
					t.Fatalf("Drop() = %d, not %d", got, has)
				}
				has, long = 0, false
			}
		default:
			many := rng.Intn(3000)
			m.Take(data(make([]byte, many)...))
			has, long = min(has+many, 8192), long || has+many > 8192
		}
		if m.Len() != has || m.Long() != long || m.Len() > 8192 {
			t.Fatalf("it has %d, long: %t, not %d, %t", m.Len(), m.Long(), has, long)
		}
	}
}

func TestMemory(t *testing.T) { // P10.1: nothing is kept of what is handed in, and what is answered is new
	var m Maker
	b := []byte{1, 2, 3, 4, 5}
	m.Take(data(b[:3]...))
	m.Take(iac.Event{Kind: iac.Data, Bytes: b[:3]})
	if !bytes.Equal(b, []byte{1, 2, 3, 4, 5}) {
		t.Fatalf("it was changed: %v", b)
	}
	scribble(b)
	first, _, _ := m.Take(end)
	if !bytes.Equal(first, []byte{1, 2, 3, 1, 2, 3}) {
		t.Fatalf("it was kept: %v", first)
	}
	m.Take(data(6, 7))
	second, _, _ := m.Take(end)
	scribble(first)
	m.Take(data(8))
	if !bytes.Equal(second, []byte{6, 7}) {
		t.Fatalf("records share memory: %v", second)
	}
	scribble(second)
	wantRecord(t, &m, []byte{8}, api.OK)

	es := []iac.Event{data(1, 2), end, data(3, 4), end}
	records, _ := All(es)
	scribble(records[0])
	scribble(es[2].Bytes)
	if !bytes.Equal(records[1], []byte{3, 4}) {
		t.Fatalf("All shares memory: %v", records[1])
	}
	connection := []byte{1, 255, 239, 2, 255, 239}
	records, _, _ = Split(connection)
	scribble(connection)
	scribble(records[0])
	if !bytes.Equal(records[1], []byte{2}) {
		t.Fatalf("Split shares memory: %v", records[1])
	}
}

// scribble writes over all of a list's memory.
func scribble(b []byte) {
	b = b[:cap(b)]
	for i := range b {
		b[i] = 'z'
	}
}
