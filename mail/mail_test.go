package mail

import (
	"math"
	"slices"
	"testing"

	"greenscreen/api"
)

// filled is a queue with room for so many, and these in it.
func filled(t *testing.T, room int, xs ...int) *Queue[int] {
	t.Helper()
	q := New[int](room)
	for _, x := range xs {
		if e := q.Put(x); e != api.OK {
			t.Fatalf("Put(%d) = %d", x, e)
		}
	}
	return q
}

// wantState holds what a queue tells of itself against what it should.
func wantState[T any](t *testing.T, q *Queue[T], many, room int, over bool) {
	t.Helper()
	if q.Len() != many || q.Room() != room || q.Over() != over {
		t.Fatalf("Len %d, Room %d, Over %t, not %d, %d, %t", q.Len(), q.Room(), q.Over(), many, room, over)
	}
}

// wantGet holds what is taken against what should be.
func wantGet[T comparable](t *testing.T, q *Queue[T], want T, is bool) {
	t.Helper()
	if x, ok := q.Get(); x != want || ok != is {
		t.Fatalf("Get = %v %t, not %v %t", x, ok, want, is)
	}
}

func wantPut[T any](t *testing.T, q *Queue[T], x T, want api.Errno) {
	t.Helper()
	if e := q.Put(x); e != want {
		t.Fatalf("Put(%v) = %d, not %d", x, e, want)
	}
}

// wantRest takes all that waits in a queue.
func wantRest(t *testing.T, q *Queue[int], want ...int) {
	t.Helper()
	if got := slices.Collect(q.All()); !slices.Equal(got, want) {
		t.Fatalf("%v waited, not %v", got, want)
	}
}

func TestExample(t *testing.T) { // P3.1
	q := New[int](2)
	wantPut(t, q, 7, api.OK)
	wantPut(t, q, 8, api.OK)
	wantPut(t, q, 9, api.ErrFull)
	wantGet(t, q, 7, true)
}

func TestRoomIsClamped(t *testing.T) { // P3.1, P3.3
	for _, c := range [][2]int{
		{0, 0}, {-1, 0}, {-1024, 0}, {math.MinInt, 0}, {1, 1}, {2, 2},
		{1023, 1023}, {1024, 1024}, {1025, 1024}, {1 << 40, 1024}, {math.MaxInt, 1024},
	} {
		q := New[int](c[0])
		for n := range c[1] {
			wantState(t, q, n, c[1]-n, false)
			wantPut(t, q, n, api.OK)
		}
		for range 2 {
			wantPut(t, q, -1, api.ErrFull)
			wantState(t, q, c[1], 0, false)
		}
		for n := range c[1] {
			wantGet(t, q, n, true)
		}
		wantGet(t, q, 0, false)
		wantState(t, q, 0, c[1], false)
	}
}

func TestNoneWaits(t *testing.T) { // P3.1: the zero value of the thing's type, and false
	wantGet(t, New[string](3), "", false)
	wantGet(t, New[[2]bool](3), [2]bool{}, false)
	wantGet(t, New[*int](3), nil, false)
	wantGet(t, New[struct{}](3), struct{}{}, false)
	for range 3 {
		wantGet(t, New[any](0), nil, false)
	}
}

func TestZeroThingsWait(t *testing.T) { // P3.1: a thing that is its type's zero value waits like any other
	q := New[any](2)
	wantPut(t, q, nil, api.OK)
	wantPut(t, q, any(7), api.OK)
	wantState(t, q, 2, 0, false)
	wantGet(t, q, nil, true)
	wantGet(t, q, any(7), true)
	wantGet(t, q, nil, false)
	empty := New[struct{}](1)
	wantPut(t, empty, struct{}{}, api.OK)
	wantPut(t, empty, struct{}{}, api.ErrFull)
	wantGet(t, empty, struct{}{}, true)
	wantGet(t, empty, struct{}{}, false)
}

func TestShut(t *testing.T) { // P3.1, P3.3
	q := filled(t, 3, 7, 8)
	q.Shut()
	wantState(t, q, 2, 0, false)
	wantPut(t, q, 9, api.ErrGone)
	wantGet(t, q, 7, true)
	wantPut(t, q, 9, api.ErrGone)
	q.Shut() // once more turns nothing
	wantState(t, q, 1, 0, false)
	wantGet(t, q, 8, true)
	for range 2 {
		wantState(t, q, 0, 0, true)
		wantGet(t, q, 0, false)
		wantPut(t, q, 9, api.ErrGone)
		q.Shut()
	}
}

func TestShutWhileFullOrEmpty(t *testing.T) { // P3.1: shut is told ahead of no room
	full := filled(t, 1, 7)
	full.Shut()
	wantPut(t, full, 8, api.ErrGone)
	wantState(t, full, 1, 0, false)
	wantRest(t, full, 7)
	wantState(t, full, 0, 0, true)
	for _, room := range []int{0, -1, 1, 1024} {
		q := New[int](room)
		wantState(t, q, 0, max(room, 0), false)
		q.Shut()
		wantState(t, q, 0, 0, true)
		wantPut(t, q, 8, api.ErrGone)
		wantGet(t, q, 0, false)
	}
}

func TestAll(t *testing.T) { // P3.1, P3.2
	q := filled(t, 4, 1, 2, 3, 4)
	all := q.All()
	wantState(t, q, 4, 0, false) // nothing is taken till it is gone over
	var got []int
	for x := range all {
		got = append(got, x)
		if q.Len() != 4-len(got) {
			t.Fatalf("%d wait behind %v", q.Len(), got)
		}
	}
	if !slices.Equal(got, []int{1, 2, 3, 4}) {
		t.Errorf("%v", got)
	}
	wantState(t, q, 0, 4, false)
	for x := range all {
		t.Errorf("%d of none", x)
	}
	wantPut(t, q, 5, api.OK)
	if again := slices.Collect(all); !slices.Equal(again, []int{5}) {
		t.Errorf("gone over once more: %v", again)
	}
}

func TestAllStops(t *testing.T) { // P3.1: what isn't asked for waits on
	for most := 1; most <= 4; most++ {
		q := filled(t, 4, 1, 2, 3, 4)
		told := 0
		q.All()(func(x int) bool {
			told++
			if x != told {
				t.Errorf("%d, not %d", x, told)
			}
			return told < most
		})
		if told != most {
			t.Errorf("%d were told, not %d", told, most)
		}
		wantState(t, q, 4-most, most, false)
		wantRest(t, q, []int{1, 2, 3, 4}[most:]...)
	}
}

func TestAllWhileMoreIsPut(t *testing.T) { // P3.1: till none waits, also of what came meanwhile
	q := filled(t, 2, 1, 2)
	var got []int
	for x := range q.All() {
		got = append(got, x)
		if x < 5 {
			q.Put(x + 2)
		}
	}
	if !slices.Equal(got, []int{1, 2, 3, 4, 5, 6}) {
		t.Errorf("%v", got)
	}
	q = filled(t, 3, 1, 2, 3)
	for x := range q.All() {
		if x == 2 {
			t.Error("what was taken meanwhile was told")
		}
		if x == 1 {
			wantGet(t, q, 2, true)
			q.Shut()
		}
	}
	wantState(t, q, 0, 0, true)
}

// wantFirst holds what is taken of queues against what should be.
func wantFirst(t *testing.T, want, place int, is bool, qs ...*Queue[int]) {
	t.Helper()
	if x, at, ok := First(qs...); x != want || at != place || ok != is {
		t.Fatalf("First = %d %d %t, not %d %d %t", x, at, ok, want, place, is)
	}
}

func TestFirst(t *testing.T) { // P3.1
	a, b, c := filled(t, 2), filled(t, 2, 7, 8), filled(t, 1, 9)
	wantFirst(t, 7, 1, true, a, b, c)
	wantState(t, b, 1, 1, false)
	wantState(t, c, 1, 0, false)
	wantFirst(t, 9, 0, true, c, b, a)
	wantPut(t, a, 6, api.OK)
	wantFirst(t, 6, 0, true, a, b, c)
	b.Shut()
	wantFirst(t, 8, 1, true, a, b, c) // what waits in a shut one is taken, too
	wantFirst(t, 0, 0, false, a, b, c)
	wantPut(t, c, 0, api.OK)
	wantFirst(t, 0, 2, true, a, b, c) // a zero thing of the last one
	wantFirst(t, 0, 0, false, a, b, c)
	wantState(t, a, 0, 2, false)
	wantState(t, b, 0, 0, true)
	wantState(t, c, 0, 1, false)
}

func TestFirstOfNoQueues(t *testing.T) { // P3.1, P1
	wantFirst(t, 0, 0, false)
	wantFirst(t, 0, 0, false, []*Queue[int]{}...)
	wantFirst(t, 0, 0, false, nil, nil)
	wantFirst(t, 0, 0, false, New[int](0))
	wantFirst(t, 7, 2, true, nil, New[int](4), filled(t, 1, 7))
	q := filled(t, 2, 7, 8)
	wantFirst(t, 7, 0, true, q, q)
	wantFirst(t, 8, 0, true, q, q)
	wantFirst(t, 0, 0, false, q, q)
	if x, at, ok := First(New[string](1)); x != "" || at != 0 || ok {
		t.Errorf("%q %d %t", x, at, ok)
	}
}

func TestFirstLeavesTheList(t *testing.T) { // the rules that hold everywhere
	a, b := filled(t, 2), filled(t, 2, 7)
	list := []*Queue[int]{a, b, a}
	First(list[:2]...)
	if !slices.Equal(list, []*Queue[int]{a, b, a}) {
		t.Error("the list was changed")
	}
}

// wantPour holds how many are poured against how many should be.
func wantPour(t *testing.T, from, to *Queue[int], want int) {
	t.Helper()
	if many := Pour(from, to); many != want {
		t.Fatalf("Pour = %d, not %d", many, want)
	}
}

func TestPour(t *testing.T) { // P3.1, P3.2
	for _, c := range []struct{ have, room, there int }{
		{0, 0, 0}, {0, 3, 0}, {3, 0, 0}, {3, 1, 0}, {3, 2, 0}, {3, 3, 0}, {3, 4, 0}, {3, 4, 1}, {3, 4, 2}, {3, 4, 4}, {1, 1024, 1023}, {2, 1024, 1023},
	} {
		from, to := New[int](5), New[int](c.room)
		var want []int
		for n := range c.there {
			wantPut(t, to, -n, api.OK)
			want = append(want, -n)
		}
		var left []int
		for n := range c.have {
			wantPut(t, from, n+1, api.OK)
			if n < c.room-c.there {
				want = append(want, n+1)
			} else {
				left = append(left, n+1)
			}
		}
		wantPour(t, from, to, c.have-len(left))
		wantState(t, from, len(left), 5-len(left), false)
		wantState(t, to, len(want), c.room-len(want), false)
		wantRest(t, from, left...)
		wantRest(t, to, want...)
	}
}

func TestPourWithShutOnes(t *testing.T) { // P3.1, P3.3
	from, to := filled(t, 3, 1, 2, 3), New[int](2)
	from.Shut()
	wantPour(t, from, to, 2)
	wantState(t, from, 1, 0, false)
	wantState(t, to, 2, 0, false)
	wantGet(t, to, 1, true)
	to.Shut()
	wantPour(t, from, to, 0)
	wantState(t, from, 1, 0, false)
	wantState(t, to, 1, 0, false)
	wantPour(t, to, New[int](9), 1)
	wantState(t, to, 0, 0, true)
	wantPour(t, from, to, 0)
	wantRest(t, from, 3)
	wantPour(t, from, New[int](9), 0)
}

func TestPourIntoItself(t *testing.T) { // P3.1
	for _, room := range []int{0, 1, 2, 3} {
		for have := range room + 1 {
			want := []int{7, 8, 9}[:have]
			q := filled(t, room, want...)
			wantPour(t, q, q, 0)
			wantState(t, q, have, room-have, false)
			wantRest(t, q, want...)
		}
	}
	q := filled(t, 3, 7, 8)
	q.Shut()
	wantPour(t, q, q, 0)
	wantRest(t, q, 7, 8)
}

func TestPourOfNoQueue(t *testing.T) { // P1
	q := filled(t, 3, 7, 8)
	wantPour(t, nil, nil, 0)
	wantPour(t, nil, q, 0)
	wantPour(t, q, nil, 0)
	wantState(t, q, 2, 1, false)
	wantRest(t, q, 7, 8)
}

func TestZeroQueue(t *testing.T) { // P1: it was never made, and is as one without room
	var q, other Queue[int]
	wantState(t, &q, 0, 0, false)
	wantPut(t, &q, 7, api.ErrFull)
	wantGet(t, &q, 0, false)
	wantFirst(t, 0, 0, false, &q)
	wantPour(t, &q, &other, 0)
	wantPour(t, filled(t, 1, 7), &q, 0)
	wantPour(t, &q, New[int](1), 0)
	wantRest(t, &q)
	q.Shut()
	q.Shut()
	wantPut(t, &q, 7, api.ErrGone)
	wantState(t, &q, 0, 0, true)
}

func TestQueuesAreApart(t *testing.T) { // P2
	a, b := New[int](1), New[int](1)
	wantPut(t, a, 7, api.OK)
	a.Shut()
	wantState(t, b, 0, 1, false)
	wantGet(t, b, 0, false)
	wantPut(t, b, 8, api.OK)
	wantGet(t, a, 7, true)
	wantGet(t, b, 8, true)
}

// model is what a queue should be: a list.
type model struct {
	room  int
	wait  []int
	shut  bool
	taken []int
	put   []int
}

func (m *model) takePut(x int) api.Errno {
	switch {
	case m.shut:
		return api.ErrGone
	case len(m.wait) == m.room:
		return api.ErrFull
	}
	m.wait = append(m.wait, x)
	m.put = append(m.put, x)
	return api.OK
}

func (m *model) takeGet() (int, bool) {
	if len(m.wait) == 0 {
		return 0, false
	}
	x := m.wait[0]
	m.wait = m.wait[1:]
	m.taken = append(m.taken, x)
	return x, true
}

// doStep does one of the kinds of calls on a queue and on the model.
func doStep(t *testing.T, q *Queue[int], m *model, kind, x int) {
	t.Helper()
	want, is := 0, false
	switch kind {
	case 0:
		wantPut(t, q, x, m.takePut(x))
	case 1:
		want, is = m.takeGet()
		wantGet(t, q, want, is)
	case 2:
		want, is = m.takeGet()
		wantFirst(t, want, 0, is, q)
	case 3:
		want, is = m.takeGet()
		for got := range q.All() {
			if got != want || !is {
				t.Fatalf("All begins with %d, not %d %t", got, want, is)
			}
			is = false
			break
		}
		if is {
			t.Fatal("All tells nothing")
		}
	case 4:
		m.shut = true
		q.Shut()
	}
}

func TestEveryOrderOfCalls(t *testing.T) { // P3.1, P3.2, P3.3: all rows of seven calls
	const kinds, calls = 5, 7
	rows := 1
	for range calls {
		rows *= kinds
	}
	for room := range 4 {
		for row := range rows {
			q, m := New[int](room), &model{room: room}
			for x := range calls {
				doStep(t, q, m, row%kinds, x)
				row /= kinds
				left := room - len(m.wait)
				if m.shut {
					left = 0
				}
				wantState(t, q, len(m.wait), left, m.shut && len(m.wait) == 0)
			}
			wantRest(t, q, m.wait...)
			if all := append(m.taken, m.wait...); !slices.Equal(all, m.put) {
				t.Fatalf("put %v, taken %v", m.put, all)
			}
		}
	}
}
