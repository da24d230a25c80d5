package wheel_test

import (
	"math"
	"slices"
	"testing"

	"minuterie/api"
	"minuterie/occ"
	"minuterie/place"
	"minuterie/wheel"
)

const never = uint64(api.Never)

func of(t *testing.T, room int) *wheel.Wheel {
	t.Helper()
	w, e := wheel.New(room)
	if w == nil || e != api.OK {
		t.Fatalf("New(%d): %v, %v", room, w, e)
	}
	return w
}

func add(t *testing.T, w *wheel.Wheel, d, period uint64) uint64 {
	t.Helper()
	h, e := w.Add(d, period)
	if e != api.OK {
		t.Fatalf("Add(%d, %d): %v", d, period, e)
	}
	return h
}

// told is all that a wheel tells without being changed.
type told struct {
	base, next uint64
	some       bool
	live       int
	taken      occ.Map
	handles    []uint64
	deadlines  []uint64
	places     []place.Key
}

func tell(w *wheel.Wheel) told {
	x := told{base: w.Base(), live: w.Live(), taken: w.Occupied(), handles: w.Handles()}
	x.next, x.some = w.Next()
	for _, h := range x.handles {
		d, _ := w.Deadline(h)
		k, _ := w.Where(h)
		x.deadlines = append(x.deadlines, d)
		x.places = append(x.places, k)
	}
	return x
}

func same(a, b told) bool {
	return a.base == b.base && a.next == b.next && a.some == b.some && a.live == b.live && a.taken == b.taken &&
		slices.Equal(a.handles, b.handles) && slices.Equal(a.deadlines, b.deadlines) && slices.Equal(a.places, b.places)
}

func collect(t *testing.T, w *wheel.Wheel, now uint64, want ...wheel.Due) {
	t.Helper()
	if l := w.Collect(now); !slices.Equal(l, want) {
		t.Errorf("Collect(%d): %v, not %v", now, l, want)
	}
}

func next(t *testing.T, w *wheel.Wheel, want uint64) {
	t.Helper()
	if d, is := w.Next(); d != want || !is {
		t.Errorf("Next: %d, %v, not %d", d, is, want)
	}
}

func TestNewRefusesOtherRooms(t *testing.T) { // P19.1, P1
	for _, room := range []int{math.MinInt, -4096, -1, 0, 4097, 8192, math.MaxInt32, math.MaxInt} {
		if w, e := wheel.New(room); w != nil || e != api.ErrRange {
			t.Errorf("New(%d): %v, %v", room, w, e)
		}
	}
}

func TestNewHasNoTimers(t *testing.T) { // P19.1, P19.2
	for _, room := range []int{1, 2, 64, 65, 4095, 4096} {
		if w := of(t, room); !same(tell(w), told{}) {
			t.Errorf("New(%d): %v", room, tell(w))
		}
	}
}

func TestAFullRoomRefusesAndStaysAsItWas(t *testing.T) { // P19.1, T1
	for _, room := range []int{1, 2, 64, 65, 4096} {
		w := of(t, room)
		for i := range room {
			if h := add(t, w, uint64(i), 0); h != 4096+uint64(i) {
				t.Fatalf("room %d: the handle %d is %d", room, i, h)
			}
		}
		was := tell(w)
		for _, d := range []uint64{0, 5, never} {
			if h, e := w.Add(d, d); h != 0 || e != api.ErrFull {
				t.Errorf("room %d: Add(%d, %d): %d, %v", room, d, d, h, e)
			}
		}
		if !same(tell(w), was) {
			t.Errorf("room %d: a refused Add has changed %v to %v", room, was, tell(w))
		}
		w.Cancel(4096)
		if h := add(t, w, 7, 0); h != 8192 {
			t.Errorf("room %d: the place's next handle is %d", room, h)
		}
	}
}

func TestTheChaptersExample(t *testing.T) { // P19.1
	w := of(t, 2)
	a, b := add(t, w, 100, 0), add(t, w, 40, 30)
	next(t, w, 40)
	collect(t, w, 99, wheel.Due{Handle: b, Deadline: 40, Period: 30})
	next(t, w, 100)
	collect(t, w, 100, wheel.Due{Handle: a, Deadline: 100}, wheel.Due{Handle: b, Deadline: 100, Period: 30})
	if w.Live() != 1 {
		t.Errorf("%d are live", w.Live())
	}
	next(t, w, 130)
}

func TestCancelTellsWhetherItWasLive(t *testing.T) { // P19.1, T2
	w := of(t, 3)
	a, b := add(t, w, 10, 0), add(t, w, 10, 5)
	for i, h := range []uint64{0, 1, 4095, a - 4096, a + 4096, b + 1, never} {
		if w.Cancel(h) {
			t.Errorf("%d: Cancel(%d) of a handle that isn't live", i, h)
		}
	}
	if w.Live() != 2 {
		t.Fatalf("%d are live", w.Live())
	}
	if !w.Cancel(a) || w.Cancel(a) {
		t.Error("it is live till it is cancelled")
	}
	collect(t, w, 10, wheel.Due{Handle: b, Deadline: 10, Period: 5})
	if !w.Cancel(b) || w.Cancel(b) || w.Live() != 0 {
		t.Error("one with a period stays live once it was due")
	}
	c := add(t, w, 12, 0)
	collect(t, w, 12, wheel.Due{Handle: c, Deadline: 12})
	if w.Cancel(c) {
		t.Error("one without a period is live though it was due")
	}
	collect(t, w, never)
}

func TestNextIsTheLeastDeadline(t *testing.T) { // P19.1
	w := of(t, 12)
	if d, is := w.Next(); d != 0 || is {
		t.Errorf("without a timer: %d, %v", d, is)
	}
	l := map[uint64]uint64{}
	for _, d := range []uint64{never, 1<<48 + 5, 1<<48 + 4, 1<<48 - 1, 1 << 42, 4100, 4099, 4097, 70, 5, 3, 0} {
		l[d] = add(t, w, d, 0)
		next(t, w, d)
	}
	for _, x := range []struct{ goes, next uint64 }{
		{4099, 0}, {never, 0}, {0, 3}, {3, 5}, {5, 70}, {70, 4097}, {4097, 4100}, {4100, 1 << 42}, {1 << 42, 1<<48 - 1}, {1<<48 - 1, 1<<48 + 4}, {1<<48 + 4, 1<<48 + 5},
	} {
		w.Cancel(l[x.goes])
		next(t, w, x.next)
	}
	w.Cancel(l[1<<48+5])
	if d, is := w.Next(); d != 0 || is {
		t.Errorf("without a timer any more: %d, %v", d, is)
	}
}

func TestTheBaseIsTheLatestTimeOfAll(t *testing.T) { // P19.1, P19.2, P19.3
	w := of(t, 1)
	for i, x := range []struct{ now, base uint64 }{{0, 0}, {7, 7}, {3, 7}, {7, 7}, {8, 8}, {0, 8}, {1 << 60, 1 << 60}, {5, 1 << 60}, {never, never}, {0, never}} {
		collect(t, w, x.now)
		if w.Base() != x.base {
			t.Errorf("%d: behind Collect(%d) the base is %d, not %d", i, x.now, w.Base(), x.base)
		}
	}
}

func TestWhatIsDueIsToldByDeadlinesThenByOrders(t *testing.T) { // P19.1
	w := of(t, 8)
	late := add(t, w, 300, 0)
	w.Cancel(add(t, w, 0, 0))
	var l []uint64
	for range 5 {
		l = append(l, add(t, w, 200, 0))
	}
	// The last one that comes has the least place, and so the least handle of those of its generation.
	w.Cancel(l[0])
	l = append(l[1:], add(t, w, 200, 0))
	first := add(t, w, 199, 0)
	want := []wheel.Due{{Handle: first, Deadline: 199}}
	for _, h := range l {
		want = append(want, wheel.Due{Handle: h, Deadline: 200})
	}
	collect(t, w.Copy(), 299, want...)
	collect(t, w, 300, append(want, wheel.Due{Handle: late, Deadline: 300})...)
}

func TestOrdersAreGivenAnewInTheOrderOfWhatIsDue(t *testing.T) { // P19.1
	w := of(t, 4)
	a, b, c := add(t, w, 30, 10), add(t, w, 20, 20), add(t, w, 10, 15)
	// All three are due at 40 then: by the orders that they had, a was ahead of b and c; by those that they have now, c and b are ahead of it.
	collect(t, w, 30, wheel.Due{Handle: c, Deadline: 10, Period: 15}, wheel.Due{Handle: b, Deadline: 20, Period: 20}, wheel.Due{Handle: a, Deadline: 30, Period: 10})
	d := add(t, w, 40, 0)
	collect(t, w, 40,
		wheel.Due{Handle: c, Deadline: 40, Period: 15}, wheel.Due{Handle: b, Deadline: 40, Period: 20},
		wheel.Due{Handle: a, Deadline: 40, Period: 10}, wheel.Due{Handle: d, Deadline: 40})
}

func TestEachIsDueOnceACollectAndThenAboveItsTime(t *testing.T) { // P19.1, P19.3, T6
	w := of(t, 1)
	h := add(t, w, 5, 3)
	for _, x := range []struct{ now, due, then uint64 }{{5, 5, 8}, {8, 8, 11}, {100, 11, 101}, {101, 101, 104}, {1 << 50, 104, 1<<50 + 1}} {
		collect(t, w, x.now, wheel.Due{Handle: h, Deadline: x.due, Period: 3})
		collect(t, w, x.now)
		next(t, w, x.then)
		collect(t, w, x.then-1)
	}
}

func TestAtTheTimesEndNoDeadlineIsAbove(t *testing.T) { // P19.1
	w := of(t, 2)
	h, f := add(t, w, never-1, 1), add(t, w, 0, never-1)
	collect(t, w, never-2, wheel.Due{Handle: f, Period: never - 1})
	collect(t, w, never-1, wheel.Due{Handle: h, Deadline: never - 1, Period: 1}, wheel.Due{Handle: f, Deadline: never - 1, Period: never - 1})
	for range 3 {
		next(t, w, never)
		collect(t, w, never, wheel.Due{Handle: h, Deadline: never, Period: 1}, wheel.Due{Handle: f, Deadline: never, Period: never - 1})
		if k, is := w.Where(h); k != place.Late() || !is {
			t.Errorf("it is at %v, %v", k, is)
		}
	}
	collect(t, w, never-1)
}

func TestATimeBelowTheBaseHasItsOwnDueOnes(t *testing.T) { // P19.1, P19.3
	w := of(t, 4)
	collect(t, w, 1000)
	a, b, c := add(t, w, 500, 0), add(t, w, 400, 50), add(t, w, 600, 0)
	collect(t, w, 399)
	next(t, w, 400)
	collect(t, w, 520, wheel.Due{Handle: b, Deadline: 400, Period: 50}, wheel.Due{Handle: a, Deadline: 500})
	if d, _ := w.Deadline(b); d != 550 || w.Base() != 1000 {
		t.Errorf("%d, the base %d", d, w.Base())
	}
	if k, is := w.Where(b); k != place.Late() || !is {
		t.Errorf("%v, %v", k, is)
	}
	collect(t, w, 1000, wheel.Due{Handle: b, Deadline: 550, Period: 50}, wheel.Due{Handle: c, Deadline: 600})
	next(t, w, 1050)
}

func TestTimersArePlacedByTheBase(t *testing.T) { // P19.2
	w := of(t, 4)
	h := add(t, w, 5000, 0)
	far, late, l := add(t, w, 1<<48, 0), add(t, w, 0, 0), place.Late()
	if k, is := w.Where(late); k != l || !is {
		t.Errorf("%v, %v", k, is)
	}
	for i, x := range []struct {
		now   uint64
		k, to place.Key
		taken occ.Map
	}{
		{1, place.Key{Level: 2, Slot: 1}, place.Far(), occ.Map{2: 1 << 1}},
		{4095, place.Key{Level: 2, Slot: 1}, place.Far(), occ.Map{2: 1 << 1}},
		{4096, place.Key{Level: 1, Slot: 14}, place.Far(), occ.Map{1: 1 << 14}},
		{4991, place.Key{Level: 1, Slot: 14}, place.Far(), occ.Map{1: 1 << 14}},
		{4992, place.Key{Level: 0, Slot: 8}, place.Far(), occ.Map{0: 1 << 8}},
		{4999, place.Key{Level: 0, Slot: 8}, place.Far(), occ.Map{0: 1 << 8}},
	} {
		w.Collect(x.now)
		k, is := w.Where(h)
		to, too := w.Where(far)
		if k != x.k || to != x.to || !is || !too || w.Occupied() != x.taken {
			t.Errorf("%d: %v, %v, %v", i, k, to, w.Occupied())
		}
	}
}

func TestHandlesThatAreNotLive(t *testing.T) { // P19.2
	w := of(t, 3)
	a, b, c := add(t, w, 10, 0), add(t, w, 1<<50, 0), add(t, w, 3, 0)
	w.Cancel(b)
	w.Collect(5)
	if !slices.Equal(w.Handles(), []uint64{a}) || w.Live() != 1 {
		t.Errorf("%v, %d", w.Handles(), w.Live())
	}
	for _, h := range []uint64{0, 1, b, c, a + 1, a - 4096, a + 4096, b + 4096, never} {
		d, is := w.Deadline(h)
		k, too := w.Where(h)
		if d != 0 || is || k != (place.Key{}) || too {
			t.Errorf("%d: %d, %v, %v, %v", h, d, is, k, too)
		}
	}
}

func TestOccupiedIsTheSlotsOfTheLevels(t *testing.T) { // P19.2
	w := of(t, 6)
	var l []uint64
	for _, d := range []uint64{5, 5, 70, 1 << 47, 1 << 48, 0} {
		l = append(l, add(t, w, d, 0))
	}
	for i, want := range []occ.Map{
		{0: 1 << 5, 1: 1 << 1, 7: 1 << 32}, {0: 1 << 5, 1: 1 << 1, 7: 1 << 32}, {1: 1 << 1, 7: 1 << 32}, {7: 1 << 32}, {}, {}, {},
	} {
		if w.Occupied() != want {
			t.Errorf("%d: %v, not %v", i, w.Occupied(), want)
		}
		if i < len(l) {
			w.Cancel(l[i])
		}
	}
}

func TestClearLeavesTheBase(t *testing.T) { // P19.2
	w := of(t, 5)
	w.Collect(77)
	if w.Clear() != 0 {
		t.Error("nothing goes where there is nothing")
	}
	for _, d := range []uint64{0, 78, 100, 5000, never} {
		add(t, w, d, 9)
	}
	was := w.Handles()
	if n := w.Clear(); n != 5 {
		t.Errorf("%d went", n)
	}
	if !same(tell(w), told{base: 77}) {
		t.Errorf("%v", tell(w))
	}
	for _, h := range was {
		if w.Cancel(h) {
			t.Errorf("%d is live", h)
		}
	}
	collect(t, w, never)
	if h := add(t, w, 3, 0); h != 8192 {
		t.Errorf("the next handle is %d", h)
	}
}
