package wheel_test

import (
	"cmp"
	"slices"
	"testing"

	"minuterie/api"
	"minuterie/occ"
	"minuterie/place"
	"minuterie/wheel"
)

// plainTimer is a timer of a plain map of deadlines.
type plainTimer struct{ deadline, period, order uint64 }

// plain is such a map by handles, with the generations of the places.
type plain struct {
	timers map[uint64]plainTimer
	gens   []uint64
	base   uint64
	given  uint64
}

func plainOf(room int) *plain {
	return &plain{timers: map[uint64]plainTimer{}, gens: slices.Repeat([]uint64{1}, room)}
}

func (p *plain) timer(d, period uint64) plainTimer {
	p.given++
	return plainTimer{d, period, p.given - 1}
}

func (p *plain) add(d, period uint64) (uint64, api.Errno) {
	for i, gen := range p.gens {
		h := gen<<12 + uint64(i)
		if _, taken := p.timers[h]; !taken {
			p.timers[h] = p.timer(d, period)
			return h, api.OK
		}
	}
	return 0, api.ErrFull
}

func (p *plain) cancel(h uint64) bool {
	_, live := p.timers[h]
	if live {
		delete(p.timers, h)
		p.gens[h%4096]++
	}
	return live
}

func (p *plain) handles() []uint64 {
	var l []uint64
	for i, gen := range p.gens {
		h := gen<<12 + uint64(i)
		if _, live := p.timers[h]; live {
			l = append(l, h)
		}
	}
	return l
}

func (p *plain) collect(now uint64) []wheel.Due {
	p.base = max(p.base, now)
	var due []uint64
	for _, h := range p.handles() {
		if p.timers[h].deadline <= now {
			due = append(due, h)
		}
	}
	slices.SortFunc(due, func(a, b uint64) int {
		x, y := p.timers[a], p.timers[b]
		return cmp.Or(cmp.Compare(x.deadline, y.deadline), cmp.Compare(x.order, y.order))
	})
	var l []wheel.Due
	for _, h := range due {
		x := p.timers[h]
		l = append(l, wheel.Due{Handle: h, Deadline: x.deadline, Period: x.period})
		if x.period == 0 {
			p.cancel(h)
		} else {
			p.timers[h] = p.timer(plainAfter(x.deadline, x.period, now), x.period)
		}
	}
	return l
}

func (p *plain) told() told {
	x := told{base: p.base, live: len(p.timers), some: len(p.timers) > 0, handles: p.handles()}
	for i, h := range x.handles {
		d := p.timers[h].deadline
		k := place.Of(p.base, d)
		x.deadlines = append(x.deadlines, d)
		x.places = append(x.places, k)
		x.taken = occ.Set(x.taken, k.Level, k.Slot)
		if i == 0 || d < x.next {
			x.next = d
		}
	}
	return x
}

// walk does the same to a wheel and to a plain map, call by call.
type walk struct {
	t      *testing.T
	n      uint64
	wheel  *wheel.Wheel
	plain  *plain
	issued []uint64
	due    int
	again  int
	full   int
	stale  int
	all    []uint64
}

func (w *walk) below(k int) int {
	w.n = w.n*6364136223846793005 + 1442695040888963407
	return int(w.n >> 33 % uint64(k))
}

// wide is a number of as many bits as chance has it, more often of few.
func (w *walk) wide() uint64 {
	size := []int{2, 5, 6, 7, 12, 13, 18, 30, 47, 48, 49, 63}[min(w.below(12), w.below(12))]
	w.below(2)
	return w.n >> (64 - size)
}

// around is a time that is mostly not far above the base.
func (w *walk) around() uint64 {
	switch w.below(12) {
	case 0:
		return w.plain.base - min(w.plain.base, w.wide())
	case 1:
		return w.plain.base | (1<<w.below(50) - 1)
	}
	n := w.wide()
	return w.plain.base + min(n, never-w.plain.base)
}

func (w *walk) add() {
	d, period := w.around(), uint64(0)
	if w.below(3) == 0 {
		period = w.wide()
	}
	h, e := w.wheel.Add(d, period)
	want, wantE := w.plain.add(d, period)
	if h != want || e != wantE {
		w.t.Fatalf("Add(%d, %d): %d, %v, not %d, %v", d, period, h, e, want, wantE)
	}
	if e != api.OK {
		w.full++
		return
	}
	w.issued = append(w.issued, h)
}

// pick is a handle that was told once, more often one of the latest.
func (w *walk) pick() uint64 {
	if len(w.issued) == 0 {
		return 4096
	}
	return w.issued[len(w.issued)-1-w.below(min(len(w.issued), 2*len(w.plain.gens)))]
}

func (w *walk) cancel(h uint64) {
	is := w.wheel.Cancel(h)
	if is != w.plain.cancel(h) {
		w.t.Fatalf("Cancel(%d): %v", h, is)
	}
	if !is {
		w.stale++
	}
}

func (w *walk) collect(now uint64) {
	was := w.plain.base
	l, want := w.wheel.Collect(now), w.plain.collect(now)
	if !slices.Equal(l, want) {
		w.t.Fatalf("Collect(%d) of the base %d: %v, not %v", now, was, l, want)
	}
	for _, x := range l {
		w.due++
		if x.Period > 0 {
			w.again++
		}
		if x.Deadline > now {
			w.t.Fatalf("Collect(%d): %v is told ahead of its deadline", now, x)
		}
		w.all = append(w.all, x.Handle, x.Deadline, x.Period)
	}
	if d, is := w.wheel.Next(); is && d <= now && now < never {
		w.t.Fatalf("behind Collect(%d) there is one due at %d", now, d)
	}
}

func (w *walk) look() {
	got, want := tell(w.wheel), w.plain.told()
	if !same(got, want) {
		w.t.Fatalf("%v, not %v", got, want)
	}
	if len(w.all) < 1000 {
		w.all = append(w.all, got.next, got.base, uint64(got.live))
	}
}

func (w *walk) copy() {
	old := w.wheel
	w.wheel = old.Copy()
	old.Collect(never)
	old.Clear()
	old.Add(3, 3)
}

func (w *walk) clear() {
	want := len(w.plain.timers)
	for _, h := range w.plain.handles() {
		w.plain.cancel(h)
	}
	if n := w.wheel.Clear(); n != want {
		w.t.Fatalf("Clear: %d, not %d", n, want)
	}
}

func (w *walk) step() {
	switch k := w.below(100); {
	case k < 50:
		w.add()
	case k < 65:
		w.cancel(w.pick())
	case k < 97:
		// Great steps are seldom, so that the time's end isn't met at once.
		w.collect(min(w.around(), w.around()))
	case k < 99:
		w.copy()
	default:
		w.clear()
	}
	w.look()
}

// walked begins at a base and ends where the time does.
func walked(t *testing.T, seed, base uint64, room int) *walk {
	wheel, _ := wheel.New(room)
	w := &walk{t: t, n: seed, wheel: wheel, plain: plainOf(room)}
	w.collect(base)
	for range 900 {
		w.step()
	}
	w.collect(never - 1)
	w.look()
	w.collect(never)
	w.look()
	return w
}

func TestAgainstAPlainMapOfDeadlines(t *testing.T) { // P19.1 to P19.3, P1, P2, and T1, T2, T6 of a wheel
	var due, again, full, stale int
	for i, room := range []int{1, 3, 17, 40} {
		for j, base := range []uint64{0, 1<<18 - 40, 1<<48 - 5000, never - 1<<40} {
			seed := uint64(10*i + j)
			w, other := walked(t, seed, base, room), walked(t, seed, base, room)
			if !slices.Equal(w.all, other.all) {
				t.Errorf("room %d: the same calls have other answers", room)
			}
			due, again, full, stale = due+w.due, again+w.again, full+w.full, stale+w.stale
		}
	}
	if due < 3000 || again < 1000 || full < 500 || stale < 500 {
		t.Errorf("too seldom: %d due ones, %d with a period, %d times full, %d handles that aren't live", due, again, full, stale)
	}
}
