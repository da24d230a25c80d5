package wheel_test

import (
	"slices"
	"testing"

	"minuterie/api"
	"minuterie/occ"
	"minuterie/place"
	"minuterie/wheel"
)

// mixed has timers at all kinds of places.
func mixed(t *testing.T) *wheel.Wheel {
	t.Helper()
	w := of(t, 10)
	for i, d := range []uint64{0, 5, 5, 70, 71, 5000, 1 << 30, 1 << 47, 1 << 50} {
		add(t, w, d, uint64(i%3)*7)
	}
	w.Collect(3)
	return w
}

func TestACopyIsTheSameAndSharesNothing(t *testing.T) { // P19.2
	for i, change := range []func(w *wheel.Wheel){
		func(w *wheel.Wheel) { w.Add(4, 0) },
		func(w *wheel.Wheel) { w.Cancel(w.Handles()[0]) },
		func(w *wheel.Wheel) { w.Cancel(w.Handles()[3]) },
		func(w *wheel.Wheel) { w.Collect(4) },
		func(w *wheel.Wheel) { w.Collect(71) },
		func(w *wheel.Wheel) { w.Collect(1 << 48) },
		func(w *wheel.Wheel) { w.Clear() },
	} {
		w := mixed(t)
		was, other := tell(w), w.Copy()
		if !same(tell(other), was) {
			t.Fatalf("%d: %v, not %v", i, tell(other), was)
		}
		change(other)
		if same(tell(other), was) || !same(tell(w), was) {
			t.Errorf("%d: a copy's change: %v, %v", i, tell(other), tell(w))
		}
		other = w.Copy()
		change(w)
		if same(tell(w), was) || !same(tell(other), was) {
			t.Errorf("%d: a change of what was copied: %v, %v", i, tell(w), tell(other))
		}
		change(other)
		if !same(tell(w), tell(other)) || !slices.Equal(w.Collect(1<<60), other.Collect(1<<60)) {
			t.Errorf("%d: a copy goes on otherwise", i)
		}
	}
}

func TestACopyHasTheOrders(t *testing.T) { // P19.2
	w := of(t, 3)
	w.Cancel(add(t, w, 0, 0))
	b, c := add(t, w, 9, 0), add(t, w, 9, 0)
	w.Cancel(b)
	b = add(t, w, 9, 0)
	x := w.Copy()
	d := add(t, x, 9, 0)
	collect(t, x, 9, wheel.Due{Handle: c, Deadline: 9}, wheel.Due{Handle: b, Deadline: 9}, wheel.Due{Handle: d, Deadline: 9})
}

func TestAnswersAreNewMemory(t *testing.T) { // P19.1, P19.2
	w := mixed(t)
	was := tell(w)
	for range 2 {
		l := w.Handles()
		clear(l[:cap(l)])
		m := w.Occupied()
		clear(m[:])
	}
	if !same(tell(w), was) {
		t.Errorf("%v, not %v", tell(w), was)
	}
	x := w.Copy()
	a, b := w.Collect(80), x.Collect(80)
	clear(a[:cap(a)])
	if len(b) != 4 || slices.Equal(a, b) || !same(tell(w), tell(x)) {
		t.Errorf("%v, %v", a, b)
	}
}

func TestANilWheel(t *testing.T) { // P19.3, P1
	var w *wheel.Wheel
	for _, n := range []uint64{0, 1, 4096, never} {
		h, e := w.Add(n, n)
		d, is := w.Deadline(n)
		k, too := w.Where(n)
		if h != 0 || e != api.ErrArg || w.Cancel(n) || d != 0 || is || k != (place.Key{}) || too || len(w.Collect(n)) != 0 {
			t.Errorf("%d: %d, %v, %d, %v, %v, %v", n, h, e, d, is, k, too)
		}
	}
	d, is := w.Next()
	if d != 0 || is || w.Base() != 0 || w.Live() != 0 || len(w.Handles()) != 0 || w.Clear() != 0 || w.Occupied() != (occ.Map{}) || w.Copy() != nil {
		t.Errorf("%d, %v", d, is)
	}
}

func TestEveryCallOfAZeroValueEnds(t *testing.T) { // P1
	var w wheel.Wheel
	for _, n := range []uint64{0, 1, 4096, never} {
		w.Add(n, n)
		w.Cancel(n)
		w.Next()
		w.Collect(n)
		w.Deadline(n)
		w.Where(n)
	}
	w.Base()
	w.Live()
	w.Handles()
	w.Occupied()
	w.Copy()
	w.Clear()
}

func TestAFullWheelGoesOnToTheTimesEnd(t *testing.T) { // P19.1, P19.3, P1
	w := of(t, api.MaxLive)
	for i := range uint64(api.MaxLive) {
		add(t, w, i*i<<(i%7*6), i%2<<(i%48))
	}
	due := 0
	for now := uint64(1); now < never; now = now*3 + 1 {
		due += len(w.Collect(now))
		if d, is := w.Next(); is && d <= now {
			t.Fatalf("%d is due at %d", d, now)
		}
		if now > never/4 {
			break
		}
	}
	w.Collect(never)
	if w.Live() != api.MaxLive/2 || due < api.MaxLive {
		t.Errorf("%d are live, %d were due", w.Live(), due)
	}
}
