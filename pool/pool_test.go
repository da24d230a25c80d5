package pool_test

import (
	"math"
	"slices"
	"testing"

	"minuterie/api"
	"minuterie/pool"
)

func next(n uint64) uint64 { return n*6364136223846793005 + 1442695040888963407 }

// handle is that of a generation at a place, by the chapter's words.
func handle(gen, place uint64) uint64 { return gen*4096 + place }

func entry(n uint64) pool.Entry { return pool.Entry{Deadline: n, Period: n + 1, Order: n + 2} }

// rooms are those at which something turns over.
func rooms() []int {
	return []int{1, 2, 3, 31, 32, 33, 63, 64, 65, 127, 128, 129, 191, 192, 193, 1000, 4032, 4033, 4095, 4096}
}

func of(t *testing.T, room int) *pool.Pool {
	t.Helper()
	p, e := pool.New(room)
	if p == nil || e != api.OK {
		t.Fatalf("New(%d): %v, %v", room, p, e)
	}
	return p
}

func put(t *testing.T, p *pool.Pool, e pool.Entry) uint64 {
	t.Helper()
	h, err := p.Put(e)
	if err != api.OK {
		t.Fatalf("Put(%v): %v", e, err)
	}
	return h
}

// filled is a pool whose places are all taken, each by entry(its place).
func filled(t *testing.T, room int) *pool.Pool {
	t.Helper()
	p := of(t, room)
	for place := range room {
		put(t, p, entry(uint64(place)))
	}
	return p
}

// told is all that a pool tells without a handle that is handed in.
type told struct {
	live, room int
	handles    []uint64
	entries    []pool.Entry
}

func tell(p *pool.Pool) told {
	x := told{live: p.Live(), room: p.Room(), handles: p.Handles()}
	for _, h := range x.handles {
		e, _ := p.Get(h)
		x.entries = append(x.entries, e)
	}
	return x
}

func same(a, b told) bool {
	return a.live == b.live && a.room == b.room && slices.Equal(a.handles, b.handles) && slices.Equal(a.entries, b.entries)
}

func TestNewRefusesOtherRooms(t *testing.T) { // P16.1, P1
	for _, room := range []int{math.MinInt, math.MinInt32, -4096, -64, -1, 0, 4097, 4098, 8192, 65536, math.MaxInt32, math.MaxInt - 1, math.MaxInt} {
		if p, e := pool.New(room); p != nil || e != api.ErrRange {
			t.Errorf("New(%d): %v, %v", room, p, e)
		}
	}
}

func TestNewHasNoEntries(t *testing.T) { // P16.1, P16.2
	for _, room := range rooms() {
		p := of(t, room)
		if p.Room() != room || p.Live() != 0 || len(p.Handles()) != 0 || p.Clear() != 0 {
			t.Errorf("New(%d): %d, %d, %v", room, p.Room(), p.Live(), p.Handles())
		}
		for place := range room {
			if p.Handle(place) != 0 || p.Place(handle(1, uint64(place))) != -1 {
				t.Fatalf("New(%d) has something at %d", room, place)
			}
		}
	}
}

func TestPutTakesTheLeastFreePlace(t *testing.T) { // P16.1, P16.3
	for _, room := range rooms() {
		p := of(t, room)
		for place := range room {
			h, e := p.Put(entry(uint64(place)))
			if h != handle(1, uint64(place)) || e != api.OK || p.Live() != place+1 {
				t.Fatalf("room %d: Put at %d: %d, %v", room, place, h, e)
			}
		}
		before := tell(p)
		for range 3 {
			if h, e := p.Put(entry(7)); h != 0 || e != api.ErrFull {
				t.Fatalf("room %d: Put into a full one: %d, %v", room, h, e)
			}
		}
		if !same(tell(p), before) || before.live != room {
			t.Fatalf("room %d: it isn't as it was", room)
		}
	}
}

func TestAFreedPlaceIsTakenAnew(t *testing.T) { // P16.1, P16.3
	for _, room := range rooms() {
		p := filled(t, room)
		// From the last place to the first one, and back: the least one is taken first, whichever went last.
		for place := room - 1; place >= 0; place -= 7 {
			if !p.Drop(handle(1, uint64(place))) {
				t.Fatalf("room %d: Drop at %d", room, place)
			}
		}
		for place := (room - 1) % 7; place < room; place += 7 {
			if h, e := p.Put(entry(9)); h != handle(2, uint64(place)) || e != api.OK {
				t.Fatalf("room %d: Put at %d: %d, %v", room, place, h, e)
			}
		}
		if h, e := p.Put(entry(9)); h != 0 || e != api.ErrFull {
			t.Fatalf("room %d: Put into a full one: %d, %v", room, h, e)
		}
	}
}

func TestAGenerationGrowsWhereAnEntryGoes(t *testing.T) { // P16.1, P16.3
	p := of(t, 2)
	put(t, p, entry(0))
	for gen := range uint64(5000) {
		h := put(t, p, entry(gen))
		if h != handle(gen+1, 1) {
			t.Fatalf("generation %d: %d", gen+1, h)
		}
		if gone := handle(gen, 1); p.Place(gone) != -1 || p.Drop(gone) || p.Place(handle(gen+2, 1)) != -1 {
			t.Fatalf("generation %d: another one is live", gen+1)
		}
		p.Set(h, entry(gen+1))
		p.Get(h)
		if p.Handle(1) != h || !p.Drop(h) || p.Drop(h) {
			t.Fatalf("generation %d: Drop", gen+1)
		}
	}
	if p.Handle(0) != 4096 || p.Live() != 1 {
		t.Errorf("the other place: %d, %d", p.Handle(0), p.Live())
	}
}

func TestGetAndSet(t *testing.T) { // P16.1
	p := of(t, 130)
	l := []uint64{}
	for n := range uint64(130) {
		l = append(l, put(t, p, entry(n)))
	}
	for n, h := range l {
		if e, live := p.Get(h); !live || e != entry(uint64(n)) {
			t.Fatalf("Get(%d): %v, %v", h, e, live)
		}
	}
	for _, e := range []pool.Entry{{}, {Deadline: 1}, {Period: 1}, {Order: 1}, {Deadline: api.Never, Period: api.Never, Order: api.Never}} {
		if !p.Set(l[65], e) {
			t.Fatalf("Set(%v)", e)
		}
		if got, live := p.Get(l[65]); !live || got != e || p.Handle(65) != l[65] || p.Live() != 130 {
			t.Fatalf("Get behind Set(%v): %v, %v", e, got, live)
		}
	}
	for n, h := range l {
		if e, _ := p.Get(h); n != 65 && e != entry(uint64(n)) {
			t.Fatalf("Set has changed another one: Get(%d): %v", h, e)
		}
	}
}

func TestAnEntryOfNoughtsIsLive(t *testing.T) { // P16.1, P16.2
	p := of(t, 1)
	h := put(t, p, pool.Entry{})
	if e, live := p.Get(h); e != (pool.Entry{}) || !live || p.Live() != 1 || p.Handle(0) != 4096 || p.Place(h) != 0 {
		t.Errorf("Get(%d): %v, %v", h, e, live)
	}
	if _, e := p.Put(pool.Entry{}); e != api.ErrFull {
		t.Errorf("Put: %v", e)
	}
}

// strangers are numbers that aren't live where places 0 and 2 of room 3 have entries of the generations 1 and 2.
func strangers() []uint64 {
	return []uint64{0, 1, 2, 3, 4095, handle(1, 1), handle(1, 2), handle(2, 0), handle(2, 1), handle(3, 2), handle(1, 3), handle(1, 4095), handle(2, 64), handle(1<<51, 0), 1<<52 + 4096, 1<<63 + 4096, 1<<32 + 4096, math.MaxUint64 - 4095, math.MaxUint64}
}

func TestWrongHandles(t *testing.T) { // P16.1, P16.2, P1
	p := filled(t, 3)
	p.Drop(handle(1, 1))
	p.Drop(handle(1, 2))
	put(t, p, entry(1))
	put(t, p, entry(20))
	p.Drop(handle(2, 1))
	before := tell(p)
	if !slices.Equal(before.handles, []uint64{handle(1, 0), handle(2, 2)}) {
		t.Fatalf("Handles: %v", before.handles)
	}
	for _, h := range strangers() {
		if e, live := p.Get(h); live || e != (pool.Entry{}) {
			t.Errorf("Get(%d): %v, %v", h, e, live)
		}
		if p.Set(h, entry(5)) || p.Drop(h) || p.Place(h) != -1 {
			t.Errorf("%d is live", h)
		}
		if !same(tell(p), before) {
			t.Fatalf("%d has changed something", h)
		}
	}
	// A place that had none is of the generation that it was.
	if h := put(t, p, entry(3)); h != handle(3, 1) {
		t.Errorf("Put: %d", h)
	}
}

func TestClear(t *testing.T) { // P16.1
	for _, room := range rooms() {
		p := filled(t, room)
		p.Drop(handle(1, 0))
		if n := p.Clear(); n != room-1 || p.Live() != 0 || len(p.Handles()) != 0 || p.Room() != room {
			t.Fatalf("room %d: Clear: %d", room, n)
		}
		if p.Clear() != 0 {
			t.Fatalf("room %d: Clear of none", room)
		}
		for place := range uint64(room) {
			if p.Place(handle(1, place)) != -1 {
				t.Fatalf("room %d: at %d it is live", room, place)
			}
			if h := put(t, p, entry(place)); h != handle(2, place) {
				t.Fatalf("room %d: Put behind Clear: %d", room, h)
			}
		}
	}
}

func TestPlaceAndHandle(t *testing.T) { // P16.2
	p := filled(t, 129)
	for place := range 129 {
		h := handle(1, uint64(place))
		if p.Place(h) != place || p.Handle(place) != h {
			t.Fatalf("at %d: %d, %d", place, p.Place(h), p.Handle(place))
		}
		if place%3 == 0 {
			p.Drop(h)
			if p.Place(h) != -1 || p.Handle(place) != 0 {
				t.Fatalf("at %d, of none: %d, %d", place, p.Place(h), p.Handle(place))
			}
		}
	}
	for _, place := range []int{math.MinInt, math.MinInt32, -4096, -64, -1, 129, 130, 192, 4095, 4096, 4097, math.MaxInt32, math.MaxInt} {
		if h := p.Handle(place); h != 0 {
			t.Errorf("Handle(%d): %d", place, h)
		}
	}
}

func TestHandlesAreByPlaces(t *testing.T) { // P16.2
	p := filled(t, 200)
	// The lower places' entries are the later ones.
	for place := range uint64(100) {
		for range 1 + place%5 {
			p.Drop(p.Handle(int(place)))
			put(t, p, entry(place))
		}
	}
	p.Drop(p.Handle(199))
	p.Drop(p.Handle(64))
	l := p.Handles()
	if len(l) != 198 || p.Live() != 198 {
		t.Fatalf("Handles: %v", l)
	}
	var want []uint64
	for place := range uint64(199) {
		switch {
		case place < 64 || place > 64 && place < 100:
			want = append(want, handle(2+place%5, place))
		case place >= 100:
			want = append(want, handle(1, place))
		}
	}
	if !slices.Equal(l, want) {
		t.Errorf("Handles: %v, not %v", l, want)
	}
}

func TestHandlesAreNewMemory(t *testing.T) { // P16.2
	p := filled(t, 3)
	l, other := p.Handles(), p.Handles()
	l[0] = 7
	_ = append(l[:1], 8)
	if want := []uint64{4096, 4097, 4098}; !slices.Equal(other, want) || !slices.Equal(p.Handles(), want) {
		t.Errorf("%v, %v", other, p.Handles())
	}
}

func TestCopyIsTheSame(t *testing.T) { // P16.2
	for _, room := range rooms() {
		p := filled(t, room)
		for place := 0; place < room; place += 3 {
			p.Drop(handle(1, uint64(place)))
		}
		c := p.Copy()
		if c == p || !same(tell(c), tell(p)) {
			t.Fatalf("room %d: Copy is another one", room)
		}
		// The generations, too, and which places are free.
		for place := uint64(0); place < uint64(room); place += 3 {
			h, other := put(t, p, entry(5)), put(t, c, entry(5))
			if h != handle(2, place) || other != h {
				t.Fatalf("room %d: Put at %d: %d, %d", room, place, h, other)
			}
		}
		if _, e := c.Put(entry(5)); e != api.ErrFull {
			t.Fatalf("room %d: Put into a full one: %v", room, e)
		}
	}
}

func TestCopySharesNothing(t *testing.T) { // P16.2
	do := func(p *pool.Pool) {
		p.Drop(handle(1, 1))
		p.Set(handle(1, 0), entry(70))
		put(t, p, entry(71))
		put(t, p, entry(72))
		p.Drop(handle(1, 2))
	}
	start := func() *pool.Pool {
		p := of(t, 66)
		for n := range uint64(65) {
			put(t, p, entry(n))
		}
		return p
	}
	p, q := start(), start()
	c, d := p.Copy(), q.Copy()
	fresh := tell(c)
	do(p)
	if !same(tell(c), fresh) {
		t.Error("a copy is changed by what is done to the first one")
	}
	do(d)
	if !same(tell(q), fresh) {
		t.Error("a pool is changed by what is done to its copy")
	}
	do(c)
	do(q)
	for _, x := range []*pool.Pool{c, d, q} {
		if !same(tell(x), tell(p)) {
			t.Errorf("the same calls have other answers: %v, %v", tell(x), tell(p))
		}
	}
}

func TestSplit(t *testing.T) { // P16.2
	for _, x := range []struct {
		h, gen uint64
		place  int
	}{
		{0, 0, 0}, {1, 0, 1}, {4095, 0, 4095}, {4096, 1, 0}, {4097, 1, 1}, {8191, 1, 4095}, {8192, 2, 0}, {5<<12 + 77, 5, 77},
		{1 << 63, 1 << 51, 0}, {math.MaxUint64, 1<<52 - 1, 4095}, {math.MaxUint64 - 4095, 1<<52 - 1, 0}, {1<<32 + 9, 1 << 20, 9},
	} {
		if gen, place := pool.Split(x.h); gen != x.gen || place != x.place {
			t.Errorf("Split(%d): %d, %d", x.h, gen, place)
		}
	}
	n := uint64(1)
	for range 1000 {
		n = next(n)
		if gen, place := pool.Split(n); gen != n/4096 || place != int(n%4096) {
			t.Fatalf("Split(%d): %d, %d", n, gen, place)
		}
	}
	for place, h := range filled(t, 70).Handles() {
		if gen, at := pool.Split(h); gen != 1 || at != place {
			t.Fatalf("Split(%d): %d, %d", h, gen, at)
		}
	}
}

func TestANilPool(t *testing.T) { // P16.3, P1
	var p *pool.Pool
	if h, e := p.Put(entry(1)); h != 0 || e != api.ErrArg {
		t.Errorf("Put: %d, %v", h, e)
	}
	for _, h := range append(strangers(), handle(1, 0)) {
		if e, live := p.Get(h); live || e != (pool.Entry{}) || p.Set(h, entry(1)) || p.Drop(h) || p.Place(h) != -1 {
			t.Errorf("%d is live", h)
		}
	}
	for _, place := range []int{math.MinInt, -1, 0, 1, 4095, 4096, math.MaxInt} {
		if p.Handle(place) != 0 {
			t.Errorf("Handle(%d): %d", place, p.Handle(place))
		}
	}
	if p.Clear() != 0 || len(p.Handles()) != 0 || p.Live() != 0 || p.Room() != 0 || p.Copy() != nil {
		t.Error("a nil pool has something")
	}
}

func TestCallsOfAZeroPoolEnd(t *testing.T) { // P1: calls of a zero value end, too
	p := &pool.Pool{}
	p.Put(entry(1))
	for _, h := range append(strangers(), handle(1, 0)) {
		p.Get(h)
		p.Set(h, entry(2))
		p.Place(h)
		p.Drop(h)
	}
	p.Handle(0)
	p.Handle(-1)
	p.Copy().Put(entry(1))
	p.Handles()
	p.Live()
	p.Room()
	p.Clear()
}

func TestTheChaptersExample(t *testing.T) { // P16.1
	p := of(t, 2)
	if h := put(t, p, entry(1)); h != 4096 {
		t.Errorf("Put: %d", h)
	}
	if h := put(t, p, entry(2)); h != 4097 {
		t.Errorf("Put: %d", h)
	}
	if h, e := p.Put(entry(3)); h != 0 || e != api.ErrFull {
		t.Errorf("Put: %d, %v", h, e)
	}
	if !p.Drop(4096) {
		t.Error("Drop")
	}
	if h := put(t, p, entry(4)); h != 8192 {
		t.Errorf("Put: %d", h)
	}
	if e, live := p.Get(4096); live || e != (pool.Entry{}) {
		t.Errorf("Get: %v, %v", e, live)
	}
	if e, live := p.Get(8192); !live || e != entry(4) {
		t.Errorf("Get: %v, %v", e, live)
	}
}
