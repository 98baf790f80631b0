package device

import (
	"bytes"
	"regexp"
	"slices"
	"strings"
	"testing"

	"greenscreen/api"
)

func wantTake(t *testing.T, d *Device, b string, want string) {
	t.Helper()
	if answer, e := d.Take([]byte(b)); string(answer) != want || e != api.OK {
		t.Fatalf("Take(%q) = %q %d, not %q 0", b, answer, e, want)
	}
}

func wantBad(t *testing.T, d *Device, b string) {
	t.Helper()
	before := told(d)
	if answer, e := d.Take([]byte(b)); len(answer) != 0 || e != api.ErrBad {
		t.Fatalf("Take(%q) = %q %d, not %d", b, answer, e, api.ErrBad)
	}
	wantTold(t, d, before)
}

// view is what a device tells of itself.
type view struct {
	state      int
	kind, unit string
	functions  string
	code       byte
}

func told(d *Device) view {
	return view{d.State(), d.Type(), d.Unit(), string(d.Functions()), d.Code()}
}

func wantTold(t *testing.T, d *Device, want view) {
	t.Helper()
	if got := told(d); got != want {
		t.Fatalf("it tells %+v, not %+v", got, want)
	}
	for f := range 256 {
		if d.Has(byte(f)) != bytes.Contains([]byte(want.functions), []byte{byte(f)}) {
			t.Fatalf("Has(%d) = %t with %q", f, d.Has(byte(f)), want.functions)
		}
	}
}

// in is a device that can have the functions 0, 2 and 4, in a state; ahead of Choosing nothing was told.
func in(t *testing.T, state int) *Device {
	t.Helper()
	d := New("N", "", []byte{4, 0, 2})
	rows := [][]string{nil, {"\x08\x02"}, {"\x08\x02", "\x02\x04A\x01B"}, {"\x08\x02", "\x02\x04A\x01B", "\x03\x04\x04\x02"}, {"\x08\x02", "\x02\x06\x05\x07"}}
	for _, b := range rows[state] {
		if _, e := d.Take([]byte(b)); e != api.OK {
			t.Fatalf("Take(%q): %d", b, e)
		}
	}
	views := []view{{}, {state: Asked}, {state: Choosing, kind: "A", unit: "B"}, {state: Done, kind: "A", unit: "B", functions: "\x02\x04"}, {state: Refused, code: 7}}
	wantTold(t, d, views[state])
	return d
}

func TestNumbers(t *testing.T) { // P8.1
	if Start != 0 || Asked != 1 || Choosing != 2 || Done != 3 || Refused != 4 {
		t.Error("the states are not 0 to 4")
	}
}

func TestExample(t *testing.T) { // P8.1
	d := New("IBM-3278-2-E", "", []byte{2, 4, 0, 2})
	wantTake(t, d, "\x08\x02", "\x02\x07IBM-3278-2-E")
	wantTake(t, d, "\x02\x04A\x01B", "\x03\x07\x00\x02\x04")
	wantTold(t, d, view{state: Choosing, kind: "A", unit: "B"})
}

func TestNamesAndUnits(t *testing.T) { // P8.1: cleaned as layer 7's names are
	long := strings.Repeat("0123456789", 3)
	for _, c := range []struct{ name, unit, want string }{
		{"", "", ""},
		{"", "U", "\x01U"},
		{"A", "", "A"},
		{"A", "U", "A\x01U"},
		{"!~", "!~", "!~\x01!~"},
		{long[:15], long[:15], long[:15] + "\x01" + long[:15]},
		{long[:16], long[:16], long[:16] + "\x01" + long[:16]},
		{long[:17], long[:17], long[:16] + "\x01" + long[:16]},
		{long, long[5:], long[:16] + "\x01" + long[5:21]},
		{"a b", "c d", "a?b\x01c?d"},
		{"\x00\x01\x20\x7f\x80\xff", "\x01", "??????\x01?"},
		{"é", "€", "??\x01???"},
	} {
		wantTake(t, New(c.name, c.unit, nil), "\x08\x02", "\x02\x07"+c.want)
	}
}

func TestStart(t *testing.T) { // P8.1, P8.2: but for SEND DEVICE-TYPE nothing is understood
	d := New("N", "U", []byte{0, 2, 4})
	wantTold(t, d, view{})
	for _, b := range []string{"", "\x08", "\x02", "\x02\x04A", "\x02\x04A\x01B", "\x02\x06\x05\x01", "\x03\x04", "\x03\x04\x00", "\x03\x07", "\x03\x07\x00"} {
		wantBad(t, d, b)
	}
	wantTake(t, d, "\x08\x02", "\x02\x07N\x01U")
	wantTold(t, d, view{state: Asked})
}

func TestSendInEveryState(t *testing.T) { // P8.1: what was told of type and unit stays, functions are Done's alone
	for state := Start; state < Refused; state++ {
		d := in(t, state)
		was := told(d)
		wantTake(t, d, "\x08\x02", "\x02\x07N")
		wantTold(t, d, view{state: Asked, kind: was.kind, unit: was.unit})
		for _, b := range []string{"\x08", "\x08\x02\x02", "\x08\x02\x00", "\x08\x03", "\x08\x08", "\x02\x08", "\x00\x08\x02", "\x08\x02A"} {
			wantBad(t, in(t, state), b)
			wantBad(t, d, b)
		}
	}
	wantBad(t, in(t, Refused), "\x08\x02")
}

func TestDeviceType(t *testing.T) { // P8.1, P8.2
	long := strings.Repeat("x", 300)
	for _, c := range []struct{ b, kind, unit string }{
		{"\x02\x04A", "A", ""},
		{"\x02\x04A\x01B", "A", "B"},
		{"\x02\x04!~\x01~!", "!~", "~!"},
		{"\x02\x04" + long + "\x01" + long, long, long},
		{"\x02\x04IBM-3278-2-E\x01LU0001", "IBM-3278-2-E", "LU0001"},
	} {
		d := in(t, Asked)
		wantTake(t, d, c.b, "\x03\x07\x00\x02\x04")
		wantTold(t, d, view{state: Choosing, kind: c.kind, unit: c.unit})
	}
	for _, b := range []string{
		"", "\x02", "\x02\x04", "\x02\x04\x01", "\x02\x04\x01B", "\x02\x04A\x01", "\x02\x04A\x01\x01B", "\x02\x04A\x01B\x01", "\x02\x04A\x01B\x01C",
		"\x02\x05A", "\x03\x04A", "\x02\x07A", "\x04\x02A", "\x02\x04A ", "\x02\x04 A", "\x02\x04A\x01B ", "\x02\x04A\x01\x20", "\x02\x04A\x00", "\x02\x04A\x01B\x00",
	} {
		wantBad(t, in(t, Asked), b)
	}
	for x := range 256 {
		for _, form := range []string{"\x02\x04?", "\x02\x04A?C", "\x02\x04A\x01?", "\x02\x04A\x01B?D"} {
			b := strings.ReplaceAll(form, "?", string([]byte{byte(x)}))
			if x >= 33 && x <= 126 || x == 1 && form == "\x02\x04A?C" {
				wantTake(t, in(t, Asked), b, "\x03\x07\x00\x02\x04")
			} else {
				wantBad(t, in(t, Asked), b)
			}
		}
	}
	for _, state := range []int{Start, Choosing, Done, Refused} {
		wantBad(t, in(t, state), "\x02\x04A")
		wantBad(t, in(t, state), "\x02\x04A\x01B")
	}
}

func TestDeviceTypeAgain(t *testing.T) { // P8.1: what is told of last counts, of the unit too
	d := in(t, Done)
	wantTake(t, d, "\x08\x02", "\x02\x07N")
	wantBad(t, d, "\x02\x04C\x01")
	wantTold(t, d, view{state: Asked, kind: "A", unit: "B"})
	wantTake(t, d, "\x02\x04C\x01D", "\x03\x07\x00\x02\x04")
	wantTold(t, d, view{state: Choosing, kind: "C", unit: "D"})
	wantTake(t, d, "\x08\x02", "\x02\x07N")
	wantTake(t, d, "\x02\x04E", "\x03\x07\x00\x02\x04")
	wantTold(t, d, view{state: Choosing, kind: "E"})
	wantTake(t, d, "\x08\x02", "\x02\x07N")
	wantTake(t, d, "\x02\x06\x05\x05", "")
	wantTold(t, d, view{state: Refused, kind: "E", code: 5})
}

func TestReject(t *testing.T) { // P8.1, P8.2
	for code := range 256 {
		d := in(t, Asked)
		wantTake(t, d, "\x02\x06\x05"+string([]byte{byte(code)}), "")
		wantTold(t, d, view{state: Refused, code: byte(code)})
	}
	for _, b := range []string{"\x02\x06", "\x02\x06\x05", "\x02\x06\x05\x01\x01", "\x02\x06\x04\x01", "\x02\x05\x06\x01", "\x03\x06\x05\x01"} {
		wantBad(t, in(t, Asked), b)
	}
	for _, state := range []int{Start, Choosing, Done, Refused} {
		wantBad(t, in(t, state), "\x02\x06\x05\x01")
	}
}

func TestFunctionsIs(t *testing.T) { // P8.1: of a device that can have 0, 2 and 4
	for _, state := range []int{Choosing, Done} {
		for _, c := range []struct{ list, want string }{
			{"", ""},
			{"\x00", "\x00"},
			{"\x02", "\x02"},
			{"\x00\x02\x04", "\x00\x02\x04"},
			{"\x04\x02\x00", "\x00\x02\x04"},
			{"\x04\x00\x04\x00\x04", "\x00\x04"},
			{strings.Repeat("\x02", 500), "\x02"},
		} {
			d := in(t, state)
			wantTake(t, d, "\x03\x04"+c.list, "")
			wantTold(t, d, view{state: Done, kind: "A", unit: "B", functions: c.want})
		}
		for _, list := range []string{"\x01", "\x00\x01", "\x04\x02\x03", "\x05", "\xff", "\x00\x02\x04\x05", "\x03\x00\x02\x04"} {
			d := in(t, state)
			wantTake(t, d, "\x03\x04"+list, "")
			wantTold(t, d, view{state: Refused, kind: "A", unit: "B", code: 255})
		}
		for _, b := range []string{"", "\x03", "\x03\x05", "\x03\x08", "\x03\x00\x04", "\x04\x03", "\x02\x07", "\x07\x03"} {
			wantBad(t, in(t, state), b)
		}
	}
	for _, state := range []int{Start, Asked, Refused} {
		wantBad(t, in(t, state), "\x03\x04")
		wantBad(t, in(t, state), "\x03\x04\x02")
	}
}

func TestFunctionsRequest(t *testing.T) { // P8.1: of a device that can have 0, 2 and 4
	for _, state := range []int{Choosing, Done} {
		for _, c := range []struct{ list, want string }{
			{"", ""},
			{"\x00", "\x00"},
			{"\x00\x02\x04", "\x00\x02\x04"},
			{"\x04\x02\x00", "\x00\x02\x04"},
			{"\x04\x00\x04\x00\x04", "\x00\x04"},
		} {
			d := in(t, state)
			wantTake(t, d, "\x03\x07"+c.list, "\x03\x04"+c.want)
			wantTold(t, d, view{state: Done, kind: "A", unit: "B", functions: c.want})
		}
		for _, c := range []struct{ list, want string }{
			{"\x01", ""},
			{"\x01\x03\x01", ""},
			{"\xff\xff\x02", "\x02"},
			{"\x04\x05\x02\x01\x00\x03\x02", "\x00\x02\x04"},
			{"\x04\x04\x03", "\x04"},
		} {
			d := in(t, state)
			wantTake(t, d, "\x03\x07"+c.list, "\x03\x07"+c.want)
			wantTold(t, d, view{state: Choosing, kind: "A", unit: "B"})
		}
	}
	for _, state := range []int{Start, Asked, Refused} {
		wantBad(t, in(t, state), "\x03\x07")
		wantBad(t, in(t, state), "\x03\x07\x02")
	}
}

func TestFunctionsToBeHad(t *testing.T) { // P8.1: those that are handed in, whatever they are
	every := make([]byte, 512)
	for i := range every {
		every[i] = byte(255 - i)
	}
	for _, c := range []struct {
		can  []byte
		want string
	}{
		{nil, ""},
		{[]byte{}, ""},
		{[]byte{255, 9, 255, 0}, "\x00\x09\xff"},
		{[]byte{4, 3, 2, 1, 0}, "\x00\x01\x02\x03\x04"},
	} {
		d := New("N", "", c.can)
		wantTake(t, d, "\x08\x02", "\x02\x07N")
		wantTake(t, d, "\x02\x04A", "\x03\x07"+c.want)
		wantTake(t, d, "\x03\x07"+string(every), "\x03\x07"+c.want)
		wantTake(t, d, "\x03\x04"+c.want, "")
		wantTold(t, d, view{state: Done, kind: "A", functions: c.want})
	}
	d := New("N", "", every)
	d.Take([]byte{8, 2})
	answer, _ := d.Take([]byte{2, 4, 'A'})
	if len(answer) != 258 || !slices.IsSorted(answer[2:]) {
		t.Fatalf("%v", answer)
	}
	if answer, _ = d.Take(append([]byte{3, 7}, every...)); len(answer) != 258 || answer[1] != 4 || !slices.IsSorted(answer[2:]) || d.State() != Done {
		t.Fatalf("%v", answer)
	}
}

func TestRefusedStays(t *testing.T) { // P8.2
	three := in(t, Choosing)
	wantTake(t, three, "\x03\x04\x01", "")
	for _, d := range []*Device{in(t, Refused), three} {
		for _, b := range []string{"", "\x08\x02", "\x02\x04A", "\x02\x04A\x01B", "\x02\x06\x05\x09", "\x03\x04", "\x03\x04\x00", "\x03\x04\x01", "\x03\x07", "\x03\x07\x00", "\x03\x07\x01"} {
			wantBad(t, d, b)
		}
	}
}

// The forms of what may come, for bytes that stand as signs of the same numbers.
var (
	formSend    = regexp.MustCompile(`(?s)\A\x08\x02\z`)
	formDevice  = regexp.MustCompile(`(?s)\A\x02\x04([!-~]+)(?:\x01([!-~]+))?\z`)
	formReject  = regexp.MustCompile(`(?s)\A\x02\x06\x05(.)\z`)
	formIs      = regexp.MustCompile(`(?s)\A\x03\x04(.*)\z`)
	formRequest = regexp.MustCompile(`(?s)\A\x03\x07(.*)\z`)
)

// signs is bytes as signs of the same numbers.
func signs(b []byte) string {
	var rs []rune
	for _, x := range b {
		rs = append(rs, rune(x))
	}
	return string(rs)
}

// model is the functions 0, 2 and 4, and no others, of a list; and whether there were others.
func model(list string) (string, bool) {
	had, others := "", false
	for _, f := range []string{"\x00", "\x02", "\x04"} {
		if strings.Contains(list, f) {
			had += f
		}
	}
	for _, f := range list {
		others = others || f != 0 && f != 2 && f != 4
	}
	return had, others
}

// expected is what a device tells behind bytes, and what it answers; ok is false of those that aren't understood.
func expected(was view, b []byte) (is view, answer string, ok bool) {
	s := signs(b)
	is = was
	switch {
	case was.state == Refused:
		return was, "", false
	case formSend.MatchString(s):
		is.state, is.functions = Asked, ""
		return is, "\x02\x07N", true
	}
	if m := formDevice.FindStringSubmatch(s); m != nil && was.state == Asked {
		is.state, is.kind, is.unit = Choosing, m[1], m[2]
		return is, "\x03\x07\x00\x02\x04", true
	}
	if m := formReject.FindStringSubmatch(s); m != nil && was.state == Asked {
		is.state, is.code = Refused, b[3]
		return is, "", true
	}
	if was.state != Choosing && was.state != Done {
		return was, "", false
	}
	if m := formIs.FindStringSubmatch(s); m != nil {
		had, others := model(m[1])
		is.state, is.functions = Done, had
		if others {
			is.state, is.functions, is.code = Refused, "", 255
		}
		return is, "", true
	}
	if m := formRequest.FindStringSubmatch(s); m != nil {
		had, others := model(m[1])
		if others {
			is.state, is.functions = Choosing, ""
			return is, "\x03\x07" + had, true
		}
		is.state, is.functions = Done, had
		return is, "\x03\x04" + had, true
	}
	return was, "", false
}

// rows goes over all rows of up to so many of the bytes.
func rows(of []byte, most int, done func([]byte)) {
	var lay func(row []byte)
	lay = func(row []byte) {
		done(row)
		if len(row) == most {
			return
		}
		for _, x := range of {
			lay(append(row[:len(row):len(row)], x))
		}
	}
	lay(nil)
}

func TestAllShortBytes(t *testing.T) { // P8.1, P8.2: in every state
	of := []byte{0, 1, 2, 3, 4, 5, 6, 7, 8, ' ', 'A', 127, 255}
	for state := Start; state <= Refused; state++ {
		was, start := told(in(t, state)), *in(t, state)
		understood := 0
		rows(of, 4, func(b []byte) {
			d := start // a device that is copied goes on apart from the first one
			is, answer, ok := expected(was, b)
			got, e := d.Take(b)
			if string(got) != answer || (e == api.OK) != ok || e != api.OK && e != api.ErrBad || told(&d) != is {
				t.Fatalf("in state %d Take(%v) = %q %d, %+v", state, b, got, e, told(&d))
			}
			if ok {
				understood++
			}
		})
		if state != Refused && understood == 0 {
			t.Fatalf("nothing was understood in state %d", state)
		}
	}
}

func TestRowsOfBytes(t *testing.T) { // P8.1, P8.2: one after the other, in every order
	of := []string{"\x08\x02", "\x02\x04A\x01B", "\x02\x04C", "\x02\x06\x05\x07", "\x03\x04\x02\x00", "\x03\x04\x01", "\x03\x07\x04", "\x03\x07\x04\x03", "\x02"}
	places := []byte{0, 1, 2, 3, 4, 5, 6, 7, 8}
	rows(places, 5, func(row []byte) {
		d, is := New("N", "", []byte{4, 0, 2}), view{}
		for _, at := range row {
			var answer string
			var ok bool
			is, answer, ok = expected(is, []byte(of[at]))
			got, e := d.Take([]byte(of[at]))
			if string(got) != answer || (e == api.OK) != ok || told(d) != is {
				t.Fatalf("behind %v: %q %d, %+v, not %+v", row, got, e, told(d), is)
			}
		}
	})
}

func TestHostWithFunctions(t *testing.T) { // P8.3: it asks for its own, and takes whatever is asked for back
	for mine := range 32 {
		for its := range 32 {
			d := New("N", "", functionsOf(mine))
			wantTake(t, d, "\x08\x02", "\x02\x07N")
			wantTake(t, d, "\x02\x04A", "\x03\x07"+string(functionsOf(mine)))
			said := append([]byte{3, 7}, functionsOf(its)...)
			for round := 0; len(said) > 0; round++ {
				answer, e := d.Take(said)
				if e != api.OK || round > 1 {
					t.Fatalf("round %d: Take(%v): %d", round, said, e)
				}
				said = nil
				if len(answer) > 1 && answer[1] == 7 {
					said = append([]byte{3, 4}, answer[2:]...)
				}
			}
			wantTold(t, d, view{state: Done, kind: "A", functions: string(functionsOf(mine & its))})
		}
	}
}

// functionsOf is the functions whose bits are set.
func functionsOf(bits int) []byte {
	var list []byte
	for f := range 5 {
		if bits>>f&1 == 1 {
			list = append(list, byte(f))
		}
	}
	return list
}

func TestMemory(t *testing.T) { // P8.1: nothing is kept of what is handed in, and what is answered is new
	can := []byte{4, 0, 2, 9}
	d := New("N", "U", can[:3])
	if !slices.Equal(can, []byte{4, 0, 2, 9}) {
		t.Fatalf("the functions were changed: %v", can)
	}
	scribble(can)
	for _, c := range []struct{ b, want string }{
		{"\x08\x02", "\x02\x07N\x01U"}, {"\x02\x04AA\x01BB", "\x03\x07\x00\x02\x04"}, {"\x03\x07\x04\x01", "\x03\x07\x04"}, {"\x03\x07\x04\x00", "\x03\x04\x00\x04"},
		{"\x08\x02", "\x02\x07N\x01U"}, {"\x02\x04CC\x01DD", "\x03\x07\x00\x02\x04"}, {"\x03\x04\x04\x02\x04", ""},
	} {
		b := []byte(c.b + "....")[:len(c.b)]
		answer, e := d.Take(b)
		if string(answer) != c.want || e != api.OK || string(b[:len(b)+4]) != c.b+"...." {
			t.Fatalf("Take(%q) = %q %d", c.b, answer, e)
		}
		scribble(b)
		scribble(answer)
		scribble(d.Functions())
	}
	wantTold(t, d, view{state: Done, kind: "CC", unit: "DD", functions: "\x02\x04"})
}

// scribble writes over all of a list's memory.
func scribble(b []byte) {
	for i := range b[:cap(b)] {
		b[:cap(b)][i] = 'z'
	}
}
