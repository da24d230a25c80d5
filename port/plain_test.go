package port_test

import (
	"slices"
	"testing"

	"minuterie/api"
	"minuterie/board"
	"minuterie/port"
)

// plain is a port as the chapter's words tell it: it keeps all gaps that passed, tick by tick, and looks at the board's resets themselves.
type plain struct {
	b      *board.Board
	gaps   []uint32
	passed []uint32
	seen   int
}

func (p *plain) down() bool { return len(p.b.Resets()) > p.seen }

func (p *plain) wait() {
	gap := uint32(0)
	if n := len(p.gaps); n > 0 {
		gap = p.gaps[len(p.passed)%n]
	}
	p.passed = append(p.passed, gap)
	for range gap {
		p.b.Tick(1)
	}
}

// reach is an access; a store of a pair, a load without one.
func (p *plain) reach(addr uint32, stored ...uint32) (v uint32, e api.Errno) {
	if !p.down() {
		p.wait()
		if !p.down() {
			if len(stored) > 0 {
				e = p.b.Store(addr, stored[0])
			} else {
				v, e = p.b.Load(addr)
			}
		}
	}
	if p.down() {
		return 0, api.ErrDown
	}
	return v, e
}

func (p *plain) boot() int {
	ahead := p.seen
	p.seen = len(p.b.Resets())
	return p.seen - ahead
}

func (p *plain) spent() uint64 {
	var sum uint64
	for _, gap := range p.passed {
		sum += uint64(gap)
	}
	return sum
}

func (p *plain) copied(b *board.Board) *plain {
	return &plain{b, slices.Clone(p.gaps), slices.Clone(p.passed), p.seen}
}

// twin is a port and a plain one, to boards of their own, to which the same is done.
type twin struct {
	port  *port.Port
	plain *plain
}

func twins(t *testing.T, gaps ...uint32) twin {
	t.Helper()
	return twin{to(t, young(t), gaps...), &plain{b: young(t), gaps: gaps}}
}

func (x twin) copied() twin {
	return twin{x.port.Copy(x.port.Board().Copy()), x.plain.copied(x.plain.b.Copy())}
}

// check looks whether both tell the same, as do their boards.
func (x twin) check(t *testing.T) {
	t.Helper()
	p, q := x.port, x.plain
	b, c := p.Board(), q.b
	if p.Down() != q.down() || p.Made() != len(q.passed) || p.Spent() != q.spent() {
		t.Fatal(p.Down(), p.Made(), p.Spent(), "not", q.down(), len(q.passed), q.spent())
	}
	if b.Time() != c.Time() || b.High() != c.High() || *b.Dog() != *c.Dog() || *b.Rtc() != *c.Rtc() || b.Compare(0) != c.Compare(0) || !slices.Equal(b.Resets(), c.Resets()) {
		t.Fatal(b.Time(), c.Time(), b.Resets(), c.Resets())
	}
}

func (x twin) load(t *testing.T, addr uint32) {
	t.Helper()
	v, e := x.port.Load(addr)
	if want, answer := x.plain.reach(addr); v != want || e != answer {
		t.Fatalf("%x: %x, %d, not %x, %d", addr, v, e, want, answer)
	}
}

func (x twin) store(t *testing.T, addr, v uint32) {
	t.Helper()
	e := x.port.Store(addr, v)
	if _, answer := x.plain.reach(addr, v); e != answer {
		t.Fatalf("%x: %d, not %d", addr, e, answer)
	}
}

// word is one that means something to an address's register, oftener than chance would have it.
func word(addr, x uint32) uint32 {
	switch addr {
	case dogControl, countOrder, rtcControl:
		return x % 8
	case dogClosed:
		return x % 4
	case dogTotal:
		return 4 + x%40
	case dogKey:
		return []uint32{first, first, second, second, x}[x>>8%5]
	case resetKey:
		return []uint32{asks, asks, 0, x, asks + 1}[x>>8%5]
	case countLoad, alarmLo, compareLo:
		return x % 64
	case compareHi:
		return x % 2
	}
	return x
}

// step does the same to both; others are who reaches the boards without a port.
func (x twin) step(t *testing.T, kind, a, b uint32) {
	t.Helper()
	few := []uint32{dogClosed, dogTotal, dogControl, dogControl, dogKey, dogKey, dogKey, resetKey, resetKey, countLoad, countOrder, compareLo, compareHi, alarmLo, rtcControl, mask, causes, many, timeLo, nowhere, mask + 1, dogSince, countValue}
	addr := few[int(a)%len(few)]
	switch kind {
	case 0, 1, 2:
		x.load(t, addr)
	case 3, 4, 5, 6, 7:
		x.store(t, addr, word(addr, b))
	case 8, 9:
		if n, want := x.port.Boot(), x.plain.boot(); n != want {
			t.Fatal(n, want)
		}
	case 10:
		n := uint64(a % 20)
		x.port.Board().Tick(n)
		x.plain.b.Tick(n)
	case 11:
		x.port.Board().Store(addr, word(addr, b))
		x.plain.b.Store(addr, word(addr, b))
	case 12:
		gaps := make([]uint32, a%70)
		for i := range gaps {
			gaps[i] = (b + uint32(i*i)) % 9
		}
		want := api.OK
		if len(gaps) > 64 {
			want = api.ErrMany
		} else {
			x.plain.gaps = slices.Clone(gaps)
		}
		if e := x.port.Gaps(gaps...); e != want {
			t.Fatal(e, want)
		}
	case 13:
		for _, stored := range [][2]uint32{{dogClosed, a % 8}, {dogTotal, 8 + b%16}, {dogControl, 1}} {
			x.store(t, stored[0], stored[1])
		}
	}
}

// P12.1 to P12.3, P1, P2: ports tell what plain ones do, call by call, also their copies, and the same again.
func TestPortsArePlainOnes(t *testing.T) {
	seed := uint64(12)
	draw := func() uint32 {
		seed = next(seed)
		return uint32(seed >> 32)
	}
	resets, behindBoots := 0, 0
	for round := range uint32(100) {
		gaps := []uint32{round % 3, round % 5, 2, round % 7}[:round%5]
		x, again := twins(t, gaps...), twins(t, gaps...)
		for range 400 {
			kind, a, b := draw()%15, draw(), draw()
			if kind == 14 {
				left := x
				x = x.copied()
				left.step(t, a%14, b, a)
				left.check(t)
				x.check(t)
				continue
			}
			x.step(t, kind, a, b)
			x.check(t)
			again.step(t, kind, a, b)
		}
		again.check(t)
		if x.port.Made() != again.port.Made() || x.port.Spent() != again.port.Spent() || x.port.Down() != again.port.Down() || !slices.Equal(x.port.Board().Resets(), again.port.Board().Resets()) {
			t.Error("another answer", round)
		}
		resets += len(x.port.Board().Resets())
		behindBoots += x.plain.seen
	}
	if resets < 1000 || behindBoots < 1000 {
		t.Error("too seldom", resets, behindBoots)
	}
}

// P12.3: the board's time grows by Spent alone, if nobody else ticks it, through resets and boots too.
func TestTimeIsSpent(t *testing.T) {
	b := young(t)
	b.Tick(1000)
	p := to(t, b, 2, 0, 9, 4)
	seed := uint64(3)
	for range 3000 {
		seed = next(seed)
		a := uint32(seed >> 33)
		addr := []uint32{dogTotal, dogControl, dogKey, resetKey, timeLo, nowhere, mask + 1}[a%7]
		if a>>8%2 == 0 {
			p.Load(addr)
		} else {
			p.Store(addr, word(addr, a>>10))
		}
		if a>>9%4 == 0 {
			p.Boot()
		}
		if b.Time() != 1000+p.Spent() {
			t.Fatal(b.Time(), p.Spent())
		}
	}
	if len(b.Resets()) < 50 {
		t.Error("too seldom", len(b.Resets()))
	}
}
