package clock

import (
	"math"
	"slices"
	"testing"

	"greenscreen/api"
)

// last is the last time that there is.
const last = int64(api.MaxTicks)

func wantSet(t *testing.T, c *Clock, id int, wait int64, want api.Errno) {
	t.Helper()
	if e := c.Set(id, wait); e != want {
		t.Fatalf("Set(%d, %d) = %d, not %d", id, wait, e, want)
	}
}

// wantGo holds the alarms that ring, and the time behind it, against what they should be.
func wantGo(t *testing.T, c *Clock, ticks, now int64, want ...int) {
	t.Helper()
	if got := c.Go(ticks); !slices.Equal(got, want) {
		t.Fatalf("Go(%d) = %v, not %v", ticks, got, want)
	}
	if c.Now() != now {
		t.Fatalf("the time is %d, not %d", c.Now(), now)
	}
}

func wantLeft(t *testing.T, c *Clock, id int, want int64, is bool) {
	t.Helper()
	if left, ok := c.Left(id); left != want || ok != is {
		t.Fatalf("Left(%d) = %d %t, not %d %t", id, left, ok, want, is)
	}
}

// wantNext holds the first time at which one is due, and how many there are, against what they should be.
func wantNext(t *testing.T, c *Clock, want int64, is bool, many int) {
	t.Helper()
	if at, ok := c.Next(); at != want || ok != is || c.Len() != many {
		t.Fatalf("Next = %d %t, Len %d, not %d %t, %d", at, ok, c.Len(), want, is, many)
	}
}

func wantDrop(t *testing.T, c *Clock, id int, want bool) {
	t.Helper()
	if was := c.Drop(id); was != want {
		t.Fatalf("Drop(%d) = %t", id, was)
	}
}

func TestExample(t *testing.T) { // P4.1
	var c Clock
	wantSet(t, &c, 7, 3, api.OK)
	wantSet(t, &c, 9, 2, api.OK)
	wantGo(t, &c, 2, 2, 9)
	wantGo(t, &c, 1, 3, 7)
}

func TestZeroClock(t *testing.T) { // P4.1
	var c Clock
	if c.Now() != 0 {
		t.Errorf("the time is %d", c.Now())
	}
	wantNext(t, &c, 0, false, 0)
	wantLeft(t, &c, 0, 0, false)
	wantDrop(t, &c, 0, false)
	wantGo(t, &c, 0, 0)
	wantGo(t, &c, 5, 5)
	if Most != 64 {
		t.Errorf("Most is %d", Most)
	}
}

func TestTimeGoesOn(t *testing.T) { // P4.1: by less than 0 it doesn't, and beyond its end it doesn't
	var c Clock
	for _, s := range [][2]int64{
		{-1, 0}, {math.MinInt64, 0}, {3, 3}, {-3, 3}, {0, 3}, {1, 4}, {math.MinInt64, 4},
		{last - 5, last - 1}, {0, last - 1}, {1, last}, {1, last}, {0, last}, {-7, last}, {last, last}, {math.MaxInt64, last},
	} {
		wantGo(t, &c, s[0], s[1])
	}
	for _, ticks := range []int64{last, last + 1, math.MaxInt64 - 1, math.MaxInt64} {
		var one, two Clock
		wantGo(t, &one, ticks, last)
		two.Go(2)
		wantGo(t, &two, ticks, last)
	}
}

func TestSet(t *testing.T) { // P4.1
	var c Clock
	for _, id := range []int{0, -1, 5, math.MinInt, math.MaxInt} {
		wantSet(t, &c, id, -1, api.ErrArg)
		wantSet(t, &c, id, math.MinInt64, api.ErrArg)
		wantLeft(t, &c, id, 0, false)
	}
	wantNext(t, &c, 0, false, 0)
	c.Go(10)
	wantSet(t, &c, 5, 4, api.OK)
	wantNext(t, &c, 14, true, 1)
	wantLeft(t, &c, 5, 4, true)
	wantSet(t, &c, 5, -1, api.ErrArg) // the elder one is there still
	wantLeft(t, &c, 5, 4, true)
	wantSet(t, &c, math.MinInt, 3, api.OK)
	wantSet(t, &c, math.MaxInt, 5, api.OK)
	wantSet(t, &c, 0, 3, api.OK)
	wantNext(t, &c, 13, true, 4)
	wantGo(t, &c, 2, 12)
	wantLeft(t, &c, 5, 2, true)
	wantLeft(t, &c, 0, 1, true)
	wantLeft(t, &c, math.MaxInt, 3, true)
	wantLeft(t, &c, 1, 0, false)
	wantGo(t, &c, 3, 15, math.MinInt, 0, 5, math.MaxInt)
	wantNext(t, &c, 0, false, 0)
	wantLeft(t, &c, 5, 0, false)
}

func TestSetAnew(t *testing.T) { // P4.1: in the place of the elder one, sooner or later than it
	var c Clock
	wantSet(t, &c, 1, 5, api.OK)
	wantSet(t, &c, 2, 6, api.OK)
	wantGo(t, &c, 3, 3)
	wantSet(t, &c, 1, 5, api.OK) // due at 8 now
	wantLeft(t, &c, 1, 5, true)
	wantNext(t, &c, 6, true, 2)
	wantGo(t, &c, 2, 5)
	wantGo(t, &c, 1, 6, 2)
	wantSet(t, &c, 1, 1, api.OK) // due at 7 now
	wantSet(t, &c, 1, 1, api.OK)
	wantNext(t, &c, 7, true, 1)
	wantGo(t, &c, 1, 7, 1)
	wantGo(t, &c, 10, 17)
	wantSet(t, &c, 1, 2, api.OK) // and one that rang
	wantGo(t, &c, 2, 19, 1)
}

func TestSetForNow(t *testing.T) { // P4.1: it rings at the next Go, even if no time goes by
	for _, ticks := range []int64{0, -1, math.MinInt64, 3} {
		var c Clock
		c.Go(4)
		wantSet(t, &c, 7, 0, api.OK)
		wantLeft(t, &c, 7, 0, true)
		wantNext(t, &c, 4, true, 1)
		wantGo(t, &c, ticks, 4+max(ticks, 0), 7)
		wantGo(t, &c, ticks, 4+2*max(ticks, 0))
	}
}

func TestTooMany(t *testing.T) { // P4.1
	var c Clock
	for id := range Most {
		wantSet(t, &c, id, int64(100-id), api.OK)
		wantNext(t, &c, int64(100-id), true, id+1)
	}
	wantSet(t, &c, Most, 1, api.ErrMany)
	wantSet(t, &c, -1, 0, api.ErrMany)
	wantSet(t, &c, Most, -1, api.ErrArg) // named first
	wantLeft(t, &c, Most, 0, false)
	wantNext(t, &c, 37, true, Most)
	for id := range Most { // of a number that is there, it may be set
		wantSet(t, &c, id, int64(200+id), api.OK)
		wantLeft(t, &c, id, int64(200+id), true)
	}
	wantNext(t, &c, 200, true, Most)
	wantDrop(t, &c, 5, true)
	wantSet(t, &c, Most, 300, api.OK)
	wantSet(t, &c, 5, 1, api.ErrMany)
	wantGo(t, &c, 200, 200, 0)
	wantSet(t, &c, 5, 0, api.OK)
	wantSet(t, &c, 0, 1, api.ErrMany)
	var want []int
	for id := range Most {
		if id != 0 && id != 5 {
			want = append(want, id)
		}
	}
	wantGo(t, &c, 100, 300, append(append([]int{5}, want...), Most)...)
	wantNext(t, &c, 0, false, 0)
}

func TestDrop(t *testing.T) { // P4.1
	var c Clock
	for id, wait := range []int64{4, 2, 6, 2} {
		wantSet(t, &c, id, wait, api.OK)
	}
	wantDrop(t, &c, 4, false)
	wantDrop(t, &c, -1, false)
	wantNext(t, &c, 2, true, 4)
	wantDrop(t, &c, 1, true)
	wantDrop(t, &c, 1, false)
	wantLeft(t, &c, 1, 0, false)
	wantNext(t, &c, 2, true, 3)
	wantDrop(t, &c, 3, true)
	wantNext(t, &c, 4, true, 2)
	wantGo(t, &c, 3, 3)
	wantDrop(t, &c, 2, true)
	wantGo(t, &c, 10, 13, 0)
	wantDrop(t, &c, 0, false)
	wantNext(t, &c, 0, false, 0)
}

func TestWaitsBeyondTheEnd(t *testing.T) { // P4.1: a time is at most MaxTicks
	for _, now := range []int64{0, 1, 100, last - 1, last} {
		for _, wait := range []int64{last - now, last - now + 1, last, last + 1, math.MaxInt64 - 1, math.MaxInt64} {
			var c Clock
			c.Go(now)
			wantSet(t, &c, 7, wait, api.OK)
			wantNext(t, &c, last, true, 1)
			wantLeft(t, &c, 7, last-now, true)
			if now < last {
				wantGo(t, &c, last-now-1, last-1)
				wantLeft(t, &c, 7, 1, true)
			}
			wantGo(t, &c, 1, last, 7)
			wantGo(t, &c, 1, last)
		}
	}
	var c Clock
	c.Go(1)
	wantSet(t, &c, 7, last-2, api.OK)
	wantNext(t, &c, last-1, true, 1)
}

func TestAtTheEnd(t *testing.T) { // P4.2: where the time goes no further, what is set still rings once
	var c Clock
	wantSet(t, &c, 3, last, api.OK)
	wantSet(t, &c, 2, math.MaxInt64, api.OK)
	wantGo(t, &c, math.MaxInt64, last, 2, 3)
	wantSet(t, &c, 1, 5, api.OK)
	wantLeft(t, &c, 1, 0, true)
	wantGo(t, &c, 0, last, 1)
	wantGo(t, &c, math.MaxInt64, last)
}

func TestOrderOfTheRing(t *testing.T) { // P4.1: by their times, those of one time by their numbers
	var c Clock
	for _, a := range [][2]int{{9, 5}, {-3, 5}, {4, 1}, {7, 5}, {0, 9}, {8, 1}, {-8, 9}, {5, 0}} {
		wantSet(t, &c, a[0], int64(a[1]), api.OK)
	}
	one := c // a clock is a value: each goes on by itself
	wantGo(t, &c, 9, 9, 5, 4, 8, -3, 7, 9, -8, 0)
	wantNext(t, &one, 0, true, 8)
	wantGo(t, &one, 1, 1, 5, 4, 8)
	wantGo(t, &one, 3, 4)
	wantGo(t, &one, 1, 5, -3, 7, 9)
	wantGo(t, &one, 90, 95, -8, 0)
}

func TestCopiesAreApart(t *testing.T) { // P2
	var c Clock
	for id := range 5 {
		c.Set(id, int64(10+id))
	}
	two := c
	two.Drop(0)
	two.Set(9, 1)
	two.Go(12)
	two.Set(8, 3)
	wantNext(t, &c, 10, true, 5)
	wantGo(t, &c, 20, 20, 0, 1, 2, 3, 4)
	wantGo(t, &two, 20, 32, 3, 4, 8)
}

func TestRingIsNewMemory(t *testing.T) { // the rules that hold everywhere
	var c Clock
	for id := range 4 {
		c.Set(id, int64(id))
	}
	rung := c.Go(1)
	clear(rung[:cap(rung)])
	wantGo(t, &c, 9, 10, 2, 3)
	if !slices.Equal(rung, []int{0, 0}) {
		t.Errorf("%v", rung)
	}
}

// wait is how long alarm id of that row waits.
func wait(row, id int) int64 {
	for range id {
		row /= 4
	}
	return int64(row % 4)
}

func TestOneStepOrMany(t *testing.T) { // P4.2: all waits from 0 to 3 of four alarms, all ways to go 4 ticks
	const alarms, rows, ways, ticks = 4, 256, 16, 4
	for row := range rows {
		for way := range ways {
			var one, many Clock
			for id := range alarms {
				one.Set(id, wait(row, id))
				many.Set(id, wait(row, id))
			}
			var got []int
			step := int64(0)
			for tick := range ticks {
				step++
				if way>>tick&1 == 1 || tick == ticks-1 {
					rung := many.Go(step)
					before := many.Now() - step
					for _, id := range rung {
						if w := wait(row, id); w > many.Now() || w <= before && before > 0 {
							t.Fatalf("%d of %d rang at %d", id, w, many.Now())
						}
					}
					got = append(got, rung...)
					step = 0
				}
			}
			all := one.Go(ticks)
			if len(all) != alarms || !slices.Equal(got, all) || one.Now() != many.Now() || one.Len()+many.Len() != 0 {
				t.Fatalf("row %d, way %b: %v at once, %v", row, way, all, got)
			}
		}
	}
}

// model is what a clock should be: times by numbers, with no order.
type model struct {
	now int64
	due map[int]int64
}

func (m *model) set(id int, wait int64) {
	m.due[id] = min(m.now+wait, last)
}

// ring is the alarms of up to a time, found tick by tick and number by number.
func (m *model) ring(ticks int64) []int {
	m.now = min(m.now+max(ticks, 0), last)
	var out []int
	for at := int64(0); at <= m.now; at++ {
		for id := -3; id <= 3; id++ {
			if due, ok := m.due[id]; ok && due == at {
				out = append(out, id)
				delete(m.due, id)
			}
		}
	}
	return out
}

// next is the first time at which one is due.
func (m *model) next() (int64, bool) {
	best, ok := int64(0), false
	for _, due := range m.due {
		if !ok || due < best {
			best, ok = due, true
		}
	}
	return best, ok
}

func TestEveryOrderOfCalls(t *testing.T) { // P4.1, P4.2: all rows of five calls
	const kinds, calls = 11, 5
	rows := 1
	for range calls {
		rows *= kinds
	}
	for row := range rows {
		var c Clock
		m := &model{due: map[int]int64{}}
		for range calls {
			kind := row % kinds
			row /= kinds
			switch {
			case kind < 6: // two waits of each of three numbers
				id, wait := kind%3-1, int64(kind/3*2)
				m.set(id, wait)
				wantSet(t, &c, id, wait, api.OK)
			case kind < 8:
				id := kind - 6
				_, was := m.due[id]
				delete(m.due, id)
				wantDrop(t, &c, id, was)
			default:
				ticks := int64(kind - 9)
				want := m.ring(ticks)
				wantGo(t, &c, ticks, m.now, want...)
			}
			at, ok := m.next()
			wantNext(t, &c, at, ok, len(m.due))
			for id := -1; id <= 1; id++ {
				left := int64(0)
				due, is := m.due[id]
				if is {
					left = due - m.now
				}
				wantLeft(t, &c, id, left, is)
			}
		}
	}
}
