package pool_test

import (
	"slices"
	"testing"

	"minuterie/api"
	"minuterie/pool"
)

// plainPlace is a place, as the chapter's words tell it.
type plainPlace struct {
	taken bool
	gen   uint64
	entry pool.Entry
}

type plain []plainPlace

func plainOf(room int) plain {
	p := make(plain, room)
	for i := range p {
		p[i].gen = 1
	}
	return p
}

func (p plain) put(e pool.Entry) (uint64, api.Errno) {
	for i := range p {
		if !p[i].taken {
			p[i].taken, p[i].entry = true, e
			return handle(p[i].gen, uint64(i)), api.OK
		}
	}
	return 0, api.ErrFull
}

// at is the place whose entry has that handle, or nil.
func (p plain) at(h uint64) *plainPlace {
	for i := range p {
		if p[i].taken && handle(p[i].gen, uint64(i)) == h {
			return &p[i]
		}
	}
	return nil
}

func (x *plainPlace) drop() {
	x.taken, x.entry = false, pool.Entry{}
	x.gen++
}

func (p plain) clear() int {
	n := 0
	for i := range p {
		if p[i].taken {
			p[i].drop()
			n++
		}
	}
	return n
}

func (p plain) told() told {
	x := told{room: len(p)}
	for i := range p {
		if p[i].taken {
			x.live++
			x.handles = append(x.handles, handle(p[i].gen, uint64(i)))
			x.entries = append(x.entries, p[i].entry)
		}
	}
	return x
}

// walk does the same to a pool and to a plain one, call by call.
type walk struct {
	t      *testing.T
	n      uint64
	pool   *pool.Pool
	plain  plain
	issued []uint64
	told   map[uint64]bool
	full   int
	stale  int
	all    []uint64
}

func (w *walk) below(k int) int {
	w.n = next(w.n)
	return int(w.n >> 33 % uint64(k))
}

// pick is a handle that is mostly one that was told once, and else nearly one.
func (w *walk) pick() uint64 {
	if len(w.issued) == 0 {
		return 4096
	}
	h := w.issued[w.below(len(w.issued))]
	if w.below(3) > 0 {
		// One of the latest ones is live more often.
		h = w.issued[len(w.issued)-1-w.below(min(len(w.issued), len(w.plain)))]
	}
	switch w.below(12) {
	case 0:
		return h + 4096
	case 1:
		return h - 4096
	case 2:
		return h + 1
	}
	return h
}

func (w *walk) put() {
	e := entry(w.n)
	h, err := w.pool.Put(e)
	if want, wantErr := w.plain.put(e); h != want || err != wantErr {
		w.t.Fatalf("Put: %d, %v, not %d, %v", h, err, want, wantErr)
	}
	w.all = append(w.all, h, uint64(err))
	if err == api.ErrFull {
		w.full++
		return
	}
	if w.told[h] {
		w.t.Fatalf("Put: %d is told twice", h)
	}
	w.told[h] = true
	w.issued = append(w.issued, h)
}

func (w *walk) ask(h uint64) {
	at := w.plain.at(h)
	e, live := w.pool.Get(h)
	if live != (at != nil) || live && e != at.entry || !live && e != (pool.Entry{}) {
		w.t.Fatalf("Get(%d): %v, %v", h, e, live)
	}
	_, place := pool.Split(h)
	if !live {
		w.stale++
		place = -1
	}
	if w.pool.Place(h) != place {
		w.t.Fatalf("Place(%d): %d, not %d", h, w.pool.Place(h), place)
	}
	w.all = append(w.all, e.Deadline, uint64(place))
}

func (w *walk) set(h uint64) {
	e, at := entry(w.n), w.plain.at(h)
	if w.pool.Set(h, e) != (at != nil) {
		w.t.Fatalf("Set(%d)", h)
	}
	if at != nil {
		at.entry = e
	}
}

func (w *walk) drop(h uint64) {
	at := w.plain.at(h)
	if w.pool.Drop(h) != (at != nil) {
		w.t.Fatalf("Drop(%d)", h)
	}
	if at != nil {
		at.drop()
	}
}

func (w *walk) look() {
	if got, want := tell(w.pool), w.plain.told(); !same(got, want) || w.pool.Live() > w.pool.Room() {
		w.t.Fatalf("%v, not %v", got, want)
	}
	place := w.below(len(w.plain)+4) - 2
	want := uint64(0)
	if place >= 0 && place < len(w.plain) && w.plain[place].taken {
		want = handle(w.plain[place].gen, uint64(place))
	}
	if h := w.pool.Handle(place); h != want {
		w.t.Fatalf("Handle(%d): %d, not %d", place, h, want)
	}
	w.all = append(w.all, want)
}

func (w *walk) step(step int) {
	// There is now more, now less.
	switch k := w.below(16) + step/300%2*4; {
	case k < 8:
		w.put()
	case k < 15:
		w.drop(w.pick())
	default:
		w.set(w.pick())
	}
	w.ask(w.pick())
	switch w.below(400) {
	case 0:
		if n, want := w.pool.Clear(), w.plain.clear(); n != want {
			w.t.Fatalf("Clear: %d, not %d", n, want)
		}
	case 1, 2:
		w.pool = w.pool.Copy()
	}
	w.look()
}

func walked(t *testing.T, seed uint64, room int) *walk {
	p, _ := pool.New(room)
	w := &walk{t: t, n: seed, pool: p, plain: plainOf(room), told: map[uint64]bool{}}
	for step := range 3000 {
		w.step(step)
	}
	return w
}

func TestAgainstPlainPlaces(t *testing.T) { // P16.1 to P16.3, P1, P2, and the room and the handles of T1, T2
	for seed, room := range []int{1, 2, 5, 17, 64, 65, 130} {
		w, again := walked(t, uint64(seed), room), walked(t, uint64(seed), room)
		if !slices.Equal(w.all, again.all) || !same(tell(w.pool), tell(again.pool)) {
			t.Errorf("room %d: the same calls have other answers", room)
		}
		if w.stale < 500 || room < 64 && w.full < 100 {
			t.Errorf("room %d: too seldom: %d wrong handles, %d times full", room, w.stale, w.full)
		}
	}
}
