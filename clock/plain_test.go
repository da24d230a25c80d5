package clock_test

import (
	"slices"
	"testing"

	"minuterie/api"
	"minuterie/clock"
	"minuterie/port"
)

// plain is a clock as the chapter's words tell it: it reckons all accesses' times itself, without a board.
type plain struct {
	time  uint64
	gaps  []uint32
	times []uint64
	last  uint64
	// fault is when the board has a reset, if that is ahead.
	fault uint64
	down  bool
}

func sum(a, b uint64) uint64 {
	if a+b < a {
		return never
	}
	return a + b
}

func (p *plain) pass(n uint64) {
	ahead := p.time
	p.time = sum(p.time, n)
	if ahead < p.fault && p.fault <= p.time {
		p.down = true
	}
}

// access tells the time at the next access, and whether it is made.
func (p *plain) access() (uint64, bool) {
	if p.down {
		return 0, false
	}
	if n := len(p.gaps); n > 0 {
		p.pass(uint64(p.gaps[len(p.times)%n]))
	}
	p.times = append(p.times, p.time)
	return p.time, !p.down
}

func (p *plain) read() (uint64, api.Errno) {
	first, ok := p.access()
	if !ok {
		return 0, api.ErrDown
	}
	upper := first / (1 << 32)
	for range 4 {
		between, ok := p.access()
		if !ok {
			return 0, api.ErrDown
		}
		behind, ok := p.access()
		if !ok {
			return 0, api.ErrDown
		}
		if behind/(1<<32) == upper {
			return upper*(1<<32) + between%(1<<32), api.OK
		}
		upper = behind / (1 << 32)
	}
	return upper * (1 << 32), api.OK
}

func (p *plain) now() (uint64, api.Errno) {
	n, e := p.read()
	if e == api.OK {
		p.last = n
	}
	return n, e
}

func (p *plain) after(delay uint64) (uint64, api.Errno) {
	n, e := p.now()
	if e != api.OK {
		return 0, e
	}
	return sum(n, delay), e
}

func (p *plain) until(d uint64) (uint64, api.Errno) {
	n, e := p.read()
	if e != api.OK || n >= d {
		return 0, e
	}
	return d - n, e
}

// twin is a clock, its port and a plain one, to which the same is done.
type twin struct {
	port  *port.Port
	clock *clock.Clock
	plain *plain
}

func twins(t *testing.T, start uint64, gaps ...uint32) twin {
	t.Helper()
	p := at(t, start, gaps...)
	return twin{p, clock.New(p), &plain{time: start, gaps: gaps}}
}

// check looks whether both tell the same.
func (x twin) check(t *testing.T, n uint64, e api.Errno, want uint64, answer api.Errno) {
	t.Helper()
	p, q := x.port, x.plain
	if n != want || e != answer || x.clock.Last() != q.last {
		t.Fatal(n, e, x.clock.Last(), "not", want, answer, q.last)
	}
	if p.Made() != len(q.times) || p.Board().Time() != q.time || p.Down() != q.down {
		t.Fatal(p.Made(), p.Board().Time(), p.Down(), "not", len(q.times), q.time, q.down)
	}
}

// step does the same to both, and tells what was answered.
func (x twin) step(t *testing.T, kind, a uint32, b uint64) (n uint64, e api.Errno) {
	t.Helper()
	want, answer := uint64(0), api.OK
	switch kind {
	case 0:
		n, e = clock.Read(x.port)
		want, answer = x.plain.read()
	case 1:
		d := x.plain.time + uint64(a%64) - 32
		n, e = clock.Until(x.port, d)
		want, answer = x.plain.until(d)
	case 2, 3:
		n, e = x.clock.Now()
		want, answer = x.plain.now()
	case 4:
		n, e = x.clock.After(b >> (a % 64))
		want, answer = x.plain.after(b >> (a % 64))
	case 5:
		n, want = uint64(x.port.Boot()), 0
		if x.plain.down {
			x.plain.down, want = false, 1
		}
	case 6:
		// To some ticks short of another upper word, where that isn't far: a watchdog's time is short as well.
		ticks := -x.plain.time%(1<<32) - uint64(a%8)
		if ticks < 1<<32 && x.plain.fault <= x.plain.time {
			x.port.Board().Tick(ticks)
			x.plain.pass(ticks)
		}
	case 7:
		if a%4 == 0 && !x.plain.down && x.plain.fault <= x.plain.time {
			watch(t, x.port, 1+a>>8%30)
			x.plain.fault = sum(x.plain.time, uint64(1+a>>8%30))
		}
	}
	x.check(t, n, e, want, answer)
	return n, e
}

func next(n uint64) uint64 { return n*6364136223846793005 + 1442695040888963407 }

// mixed are gaps of which some are short, and some have another upper word, or just not.
func mixed(draw func() uint32) []uint32 {
	l := make([]uint32, draw()%8)
	for i := range l {
		switch a := draw(); a % 8 {
		case 0, 1, 2:
			l[i] = a >> 8 % 4
		case 3:
			l[i] = a >> 8
		case 4, 5, 6:
			l[i] = all - a>>8%4
		}
	}
	return l
}

// P13.1 to P13.3, P1, P2: clocks tell what plain ones do, call by call, and the same again.
func TestClocksArePlainOnes(t *testing.T) {
	seed := uint64(13)
	draw := func() uint32 {
		seed = next(seed)
		return uint32(seed >> 32)
	}
	var made [10]int
	downs := 0
	for round := range uint64(400) {
		start := []uint64{0, 1<<32 - 5, 1<<63 - 3, 1<<62 + uint64(draw()), uint64(draw())}[round%5]
		gaps := mixed(draw)
		if round%2 == 0 {
			for i := range gaps {
				gaps[i] %= 4
			}
		}
		x, again := twins(t, start, gaps...), twins(t, start, gaps...)
		for range 60 {
			kind, a, b := draw()%8, draw(), uint64(draw())<<32|uint64(draw())
			ahead := x.port.Made()
			n, e := x.step(t, kind, a, b)
			if m, f := again.step(t, kind, a, b); m != n || f != e {
				t.Fatal("another answer", m, f, n, e)
			}
			if kind < 5 && e == api.OK {
				made[x.port.Made()-ahead]++
			}
			if e == api.ErrDown {
				downs++
			}
		}
	}
	for n, times := range made {
		if reached := n >= 3 && n%2 == 1; reached && times < 50 || !reached && times > 0 {
			t.Error(n, "accesses", times, "times")
		}
	}
	if downs < 500 {
		t.Error("too seldom", downs)
	}
}

// P13.3: it is a time that the board had between the first access's gap and the last access, and never falls.
func TestReadIsATimeThatWas(t *testing.T) {
	seed := uint64(7)
	draw := func() uint32 {
		seed = next(seed)
		return uint32(seed >> 32)
	}
	for range 300 {
		gaps := mixed(draw)
		p := at(t, 1<<32-uint64(draw()%40), gaps...)
		c := clock.New(p)
		ahead := uint64(0)
		for range 50 {
			from, made := p.Board().Time(), p.Made()
			if len(gaps) > 0 {
				from += uint64(gaps[made%len(gaps)])
			}
			n, e := c.Now()
			if e != api.OK || n < from || n > p.Board().Time() || n < ahead {
				t.Fatal(n, e, from, p.Board().Time(), ahead)
			}
			if made = p.Made() - made; made < 3 || made > 9 {
				t.Fatal(made)
			}
			ahead = n
			p.Board().Tick(uint64(draw() % 3))
		}
	}
}

// P13.3: at the time's end, too.
func TestTheEnd(t *testing.T) {
	for back := range uint64(40) {
		x := twins(t, never-back, 1, 0, 2)
		l := []uint64{}
		for range 6 {
			n, _ := x.step(t, 2, 0, 0)
			l = append(l, n)
		}
		if !slices.IsSorted(l) || back <= 16 && l[5] != never {
			t.Error(back, l)
		}
	}
	x := twins(t, never-3<<32, all)
	for range 3 {
		x.step(t, 2, 0, 0)
	}
	if x.clock.Last() != never {
		t.Error(x.clock.Last())
	}
}
