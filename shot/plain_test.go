package shot_test

import (
	"testing"

	"minuterie/api"
	"minuterie/port"
	"minuterie/shot"
)

const harts = 3

// plain is shots, one of each hart, as the chapter's words tell it: it reckons all accesses' times and all comparators itself, without a board.
type plain struct {
	time     uint64
	gaps     []uint32
	made     int
	compares [harts]uint64
	armed    [harts]uint64
	// fault is when the board has a reset, if that is ahead.
	fault uint64
	down  bool
}

func sum(a, b uint64) uint64 {
	if a+b < a {
		return never
	}
	return a + b
}

func (p *plain) reset() {
	for hart := range p.compares {
		p.compares[hart] = never
	}
	p.down = true
}

func (p *plain) pass(n uint64) {
	ahead := p.time
	p.time = sum(p.time, n)
	if ahead < p.fault && p.fault <= p.time {
		p.reset()
	}
}

// access tells whether the next access is made.
func (p *plain) access() bool {
	if p.down {
		return false
	}
	gap := uint32(0)
	if n := len(p.gaps); n > 0 {
		gap = p.gaps[p.made%n]
	}
	p.made++
	p.pass(uint64(gap))
	return !p.down
}

func (p *plain) arm(hart int, d uint64) api.Errno {
	p.armed[hart] = never
	if !p.access() {
		return api.ErrDown
	}
	p.compares[hart] = p.compares[hart]/(1<<32)*(1<<32) + all
	if !p.access() {
		return api.ErrDown
	}
	p.compares[hart] = d/(1<<32)*(1<<32) + all
	if !p.access() {
		return api.ErrDown
	}
	p.compares[hart], p.armed[hart] = d, d
	return api.OK
}

// twin is shots, their port and a plain one, to which the same is done.
type twin struct {
	port  *port.Port
	shots [harts]*shot.Shot
	plain *plain
}

func twins(t *testing.T, start uint64, gaps ...uint32) twin {
	t.Helper()
	p := of(t, harts, gaps...)
	p.Board().Tick(start)
	x := twin{port: p, plain: &plain{time: start, gaps: gaps, compares: [harts]uint64{never, never, never}, armed: [harts]uint64{never, never, never}}}
	for hart := range harts {
		x.shots[hart] = on(t, p, hart)
	}
	return x
}

// check looks whether both are the same.
func (x twin) check(t *testing.T, e, answer api.Errno) {
	t.Helper()
	p, q := x.port, x.plain
	if e != answer || p.Made() != q.made || p.Board().Time() != q.time || p.Down() != q.down {
		t.Fatal(e, p.Made(), p.Board().Time(), p.Down(), "not", answer, q.made, q.time, q.down)
	}
	for hart, s := range x.shots {
		is(t, s, p, q.armed[hart], q.compares[hart])
		if s.Pending() != (q.time >= q.compares[hart]) || s.Hart() != hart {
			t.Fatal(hart, s.Pending(), s.Hart())
		}
	}
}

// near is a deadline around the time, or anywhere.
func (x twin) near(a uint32, b uint64) uint64 {
	switch a % 4 {
	case 0:
		return b >> (a >> 2 % 64)
	case 1:
		return x.plain.time + uint64(a>>2%64) - 8
	}
	return x.plain.time + uint64(a>>2%64)
}

// step does the same to both, and tells what was answered.
func (x twin) step(t *testing.T, kind, a uint32, b uint64) api.Errno {
	t.Helper()
	e, answer := api.OK, api.OK
	hart := int(b % harts)
	switch kind {
	case 0, 1, 2, 3:
		d := x.near(a, b)
		e, answer = x.shots[hart].Arm(d), x.plain.arm(hart, d)
	case 4:
		e, answer = x.shots[hart].Disarm(), x.plain.arm(hart, never)
	case 5:
		x.shots[hart].Lost()
		x.plain.armed[hart] = never
	case 6:
		d := x.near(a, b)
		set(t, x.port, hart, d)
		x.plain.compares[hart] = d
	case 7:
		x.port.Board().Tick(uint64(a % 20))
		x.plain.pass(uint64(a % 20))
	case 8:
		x.port.Boot()
		x.plain.down = false
	case 9:
		if total := 1 + a>>8%40; a%2 == 0 && !x.plain.down && x.plain.fault <= x.plain.time {
			watch(t, x.port, total)
			x.plain.fault = x.plain.time + uint64(total)
		}
	case 10:
		if a%8 == 0 {
			reset(t, x.port)
			x.plain.reset()
			// The watchdog is reset, too.
			x.plain.fault = 0
		}
	}
	x.check(t, e, answer)
	return e
}

func next(n uint64) uint64 { return n*6364136223846793005 + 1442695040888963407 }

// P14.1 to P14.3, P1, P2: shots do what plain ones do, call by call, and the same again.
func TestShotsArePlainOnes(t *testing.T) {
	seed := uint64(14)
	draw := func() uint32 {
		seed = next(seed)
		return uint32(seed >> 32)
	}
	armed, within := 0, 0
	for round := range uint64(300) {
		start := []uint64{0, 1<<32 - 300, 1<<63 - 3, 1<<62 + uint64(draw()), uint64(draw())}[round%5]
		gaps := make([]uint32, draw()%7)
		for i := range gaps {
			gaps[i] = draw() % 12
		}
		x, again := twins(t, start, gaps...), twins(t, start, gaps...)
		for range 100 {
			kind, a, b := draw()%11, draw(), uint64(draw())<<32|uint64(draw())
			down, made := x.plain.down, x.plain.made
			e := x.step(t, kind, a, b)
			if f := again.step(t, kind, a, b); f != e {
				t.Fatal("another answer", f, e)
			}
			switch {
			case kind < 5 && e == api.OK:
				armed++
			case kind < 5 && !down && x.plain.made > made+1:
				within++
			}
		}
	}
	if armed < 5000 || within < 200 {
		t.Error("too seldom", armed, within)
	}
}

// P14.1, P1: gaps up to the time's end, and beyond it.
func TestTheEnd(t *testing.T) {
	for back := range uint64(30) {
		x := twins(t, never-back, 1, 0, 2)
		for i := range uint32(8) {
			x.step(t, i%5, 1+4*i, uint64(i))
		}
		if back < 16 && x.plain.time != never {
			t.Error(back, x.plain.time)
		}
	}
	x := twins(t, never-1<<33, all)
	for range 3 {
		x.step(t, 0, 3, 0)
	}
	if x.plain.time != never || !x.shots[0].Pending() || !x.shots[2].Pending() {
		t.Error(x.plain.time)
	}
}
