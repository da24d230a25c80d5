package chain_test

import (
	"slices"
	"testing"

	"minuterie/chain"
)

func next(n uint64) uint64 { return n*6364136223846793005 + 1442695040888963407 }

// plain is a list of things for each key, as the chapter's words tell it.
type plain struct {
	room int
	rows map[spot][]int
}

// at tells the key whose list has a thing, and where in it that is.
func (p *plain) at(i int) (spot, int, bool) {
	for k, l := range p.rows {
		if at := slices.Index(l, i); at >= 0 {
			return k, at, true
		}
	}
	return spot{}, 0, false
}

func (p *plain) push(k spot, i int) bool {
	if _, _, in := p.at(i); in || i < 0 || i >= p.room {
		return false
	}
	p.rows[k] = append(p.rows[k], i)
	return true
}

func (p *plain) remove(i int) bool {
	k, at, in := p.at(i)
	if in {
		p.rows[k] = slices.Delete(p.rows[k], at, at+1)
	}
	return in
}

func (p *plain) total() int {
	n := 0
	for _, l := range p.rows {
		n += len(l)
	}
	return n
}

func (p *plain) copied() *plain {
	q := &plain{room: p.room, rows: map[spot][]int{}}
	for k, l := range p.rows {
		q.rows[k] = slices.Clone(l)
	}
	return q
}

// walk does the same to chains and to plain lists, call by call.
type walk struct {
	t              *testing.T
	n              uint64
	chains, old    *chain.Chains[spot]
	plain, plainly *plain
	all            []int
	refused, gone  int
}

func (w *walk) below(k int) int {
	w.n = next(w.n)
	return int(w.n >> 33 % uint64(k))
}

// thing is mostly one of the room.
func (w *walk) thing() int { return w.below(w.plain.room+4) - 2 }

func (w *walk) key() spot { return spot{w.below(3), w.below(2)} }

func (w *walk) push() {
	k, i := w.key(), w.thing()
	want := w.plain.push(k, i)
	if w.chains.Push(k, i) != want {
		w.t.Fatalf("Push(%v, %d): not %v", k, i, want)
	}
	if !want {
		w.refused++
	}
}

func (w *walk) remove() {
	i := w.thing()
	want := w.plain.remove(i)
	if w.chains.Remove(i) != want {
		w.t.Fatalf("Remove(%d): not %v", i, want)
	}
	if want {
		w.gone++
	}
}

func (w *walk) take() {
	k := w.key()
	l := w.chains.Take(k)
	if !slices.Equal(l, w.plain.rows[k]) {
		w.t.Fatalf("Take(%v): %v, not %v", k, l, w.plain.rows[k])
	}
	delete(w.plain.rows, k)
	w.all = append(w.all, l...)
}

// swap goes on with the older ones, which nothing has changed meanwhile.
func (w *walk) swap() {
	w.chains, w.old = w.old, w.chains.Copy()
	w.plain, w.plainly = w.plainly, w.plain.copied()
}

func (w *walk) look() {
	for level := range 3 {
		for slot := range 2 {
			k := spot{level, slot}
			holds(w.t, w.chains, k, w.plain.rows[k]...)
			w.all = append(w.all, w.chains.Len(k), w.chains.First(k))
		}
	}
	if w.chains.Total() != w.plain.total() {
		w.t.Fatalf("Total: %d, not %d", w.chains.Total(), w.plain.total())
	}
	i := w.thing()
	k, at, in := w.plain.at(i)
	behind := -1
	if in && at+1 < len(w.plain.rows[k]) {
		behind = w.plain.rows[k][at+1]
	}
	if got, is := w.chains.Key(i); got != k || is != in || w.chains.Next(i) != behind {
		w.t.Fatalf("thing %d: %v, %v, ahead of %d, not %v, %v, %d", i, got, is, w.chains.Next(i), k, in, behind)
	}
	w.all = append(w.all, behind)
}

func walked(t *testing.T, seed uint64, room int) *walk {
	empty := &plain{room: room, rows: map[spot][]int{}}
	w := &walk{t: t, n: seed, chains: of[spot](t, room), old: of[spot](t, room), plain: empty, plainly: empty.copied()}
	for step := range 3000 {
		// There are now more, now fewer.
		switch k := w.below(20) + step/200%2*5; {
		case k < 12:
			w.push()
		case k < 24:
			w.remove()
		default:
			w.take()
		}
		if w.below(50) == 0 {
			w.swap()
		}
		w.look()
	}
	return w
}

func TestAgainstPlainLists(t *testing.T) { // P17.1 to P17.3, P1, P2
	for seed, room := range []int{1, 2, 5, 17, 64, 130} {
		w, again := walked(t, uint64(seed), room), walked(t, uint64(seed), room)
		if !slices.Equal(w.all, again.all) {
			t.Errorf("room %d: the same calls have other answers", room)
		}
		if w.refused < 100 || w.gone < 100 {
			t.Errorf("room %d: too seldom: %d refused, %d gone", room, w.refused, w.gone)
		}
	}
}
