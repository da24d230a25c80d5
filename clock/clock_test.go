package clock_test

import (
	"testing"

	"minuterie/api"
	"minuterie/board"
	"minuterie/clock"
	"minuterie/port"
)

const (
	all   = 1<<32 - 1
	never = uint64(1<<64 - 1)
)

// Registers' addresses, and the reset controller's key.
const (
	timeLo     = board.ClintAt + 0xbff8
	dogControl = board.WdogAt
	dogTotal   = board.WdogAt + 8
	resetKey   = board.RstcAt + 8
	asks       = 0xb007
)

// at is a port to a board whose time is start.
func at(t *testing.T, start uint64, gaps ...uint32) *port.Port {
	t.Helper()
	b, e := board.New(board.Config{Harts: 1, Counts: 1, Div: 3})
	if e != api.OK {
		t.Fatal(e)
	}
	b.Tick(start)
	p, e := port.New(b, gaps...)
	if e != api.OK {
		t.Fatal(e)
	}
	return p
}

// reset is one by the board's own store.
func reset(t *testing.T, p *port.Port) {
	t.Helper()
	if e := p.Board().Store(resetKey, asks); e != api.OK {
		t.Fatal(e)
	}
}

// watch has the board reset so many ticks from now.
func watch(t *testing.T, p *port.Port, total uint32) {
	t.Helper()
	for _, x := range [][2]uint32{{dogTotal, total}, {dogControl, 1}} {
		if e := p.Board().Store(x[0], x[1]); e != api.OK {
			t.Fatal(e)
		}
	}
}

// read looks at what is read, and by how many accesses.
func read(t *testing.T, p *port.Port, want uint64, made int) {
	t.Helper()
	ahead := p.Made()
	if n, e := clock.Read(p); n != want || e != api.OK || p.Made()-ahead != made {
		t.Fatal(n, e, p.Made()-ahead, "not", want, made)
	}
}

func now(t *testing.T, c *clock.Clock, want uint64) {
	t.Helper()
	if n, e := c.Now(); n != want || e != api.OK || c.Last() != want {
		t.Fatal(n, e, c.Last(), "not", want)
	}
}

func after(t *testing.T, c *clock.Clock, delay, want, last uint64) {
	t.Helper()
	if n, e := c.After(delay); n != want || e != api.OK || c.Last() != last {
		t.Fatal(n, e, c.Last(), "not", want, last)
	}
}

func until(t *testing.T, p *port.Port, d, want uint64) {
	t.Helper()
	if n, e := clock.Until(p, d); n != want || e != api.OK {
		t.Fatal(d, n, e, "not", want)
	}
}

// The chapter's example.
func TestExample(t *testing.T) {
	read(t, at(t, 1<<32-1, 0, 1, 0), 1<<32, 5)
}

// P13.1: both upper words are the same: it is the time at the access between.
func TestOneRound(t *testing.T) {
	for _, start := range []uint64{0, 1, 5, 99, 1<<32 - 1, 1 << 32, 1<<32 + 7, 5<<32 - 1, 0x12345678_9abcdef0, 1 << 63, never - 1<<32, never - 1, never} {
		read(t, at(t, start), start, 3)
		read(t, at(t, start, 0, 0, 0), start, 3)
	}
	for _, gaps := range [][]uint32{{2}, {9, 4}, {1, 0, 7}, {0, 3, 0, 50}, {1 << 20, 1 << 30, 1 << 31}} {
		read(t, at(t, 8, gaps...), 8+uint64(gaps[0])+uint64(gaps[1%len(gaps)]), 3)
	}
	// All three accesses on this side of a new upper word, or on that one.
	read(t, at(t, 1<<32-4, 0, 2, 1), 1<<32-2, 3)
	read(t, at(t, 1<<32-4, 4, 2, 1), 1<<32+2, 3)
	read(t, at(t, 1<<32-4, 4, 0, 0), 1<<32, 3)
}

// P13.1: the upper words aren't the same, be the new one there at the lower word or only behind it.
func TestTwoRounds(t *testing.T) {
	read(t, at(t, 1<<32-1, 0, 0, 1, 0, 0), 1<<32, 5)
	read(t, at(t, 1<<32-1, 0, 1, 0, 3, 2), 1<<32+3, 5)
	read(t, at(t, 1<<32-3, 2, 5, 7, 11, 13), 1<<32-3+25, 5)
	read(t, at(t, 7<<32-1, 0, 0, 1, all-1, 1), 8<<32-2, 5)
	read(t, at(t, 7<<32-1, 0, 0, 1, all, 0), 8<<32-1, 5)
	read(t, at(t, never-1<<32, 0, 1, 0, 4), never-1<<32+5, 5)
}

// skips are gaps by which each of so many rounds meets another upper word, ahead of its lower word or behind that.
func skips(rounds int, ahead bool, last ...uint32) []uint32 {
	l := []uint32{2}
	for range rounds {
		if ahead {
			l = append(l, all, 1)
		} else {
			l = append(l, 1, all)
		}
	}
	return append(l, last...)
}

// P13.1, P13.3: the second upper word stands in the first one's place, round by round, till there were four of them.
func TestRounds(t *testing.T) {
	const start = 3<<32 + 100
	for _, ahead := range []bool{true, false} {
		for rounds := range uint64(4) {
			p := at(t, start, skips(int(rounds), ahead, 6, 8, 1000)...)
			read(t, p, start+2+rounds<<32+6, 3+2*int(rounds))
			if p.Board().Time() != start+2+rounds<<32+14 {
				t.Error(rounds, p.Board().Time())
			}
		}
		// Behind four rounds whose upper words weren't the same there is no other one.
		p := at(t, start, skips(4, ahead, 6, 8, 1000)...)
		read(t, p, 7<<32, 9)
		if p.Board().Time() != start+2+4<<32 {
			t.Error(p.Board().Time())
		}
		read(t, p, start+2+4<<32+14, 3)
	}
	// Each access meets another upper word.
	p := at(t, 100, all)
	read(t, p, 9<<32, 9)
	read(t, p, 18<<32, 9)
	if p.Board().Time() != 100+18*all {
		t.Error(p.Board().Time())
	}
}

// P13.1: what ends the last round, to a tick.
func TestLastRound(t *testing.T) {
	// Behind three rounds it is the last time of an upper word, or the one ahead of that.
	start := uint64(1<<32 - 3)
	gaps := skips(3, false, 0, 1)
	read(t, at(t, start, gaps...), 4<<32, 9)
	read(t, at(t, start-1, gaps...), 4<<32-2, 9)
	gaps = skips(3, false, 1, 0)
	read(t, at(t, start, gaps...), 4<<32, 9)
	read(t, at(t, start-1, gaps...), 4<<32-1, 9)
}

// readers are all calls that read the time.
func readers() []func(p *port.Port) (uint64, api.Errno) {
	return []func(p *port.Port) (uint64, api.Errno){
		clock.Read,
		func(p *port.Port) (uint64, api.Errno) { return clock.Until(p, never) },
		func(p *port.Port) (uint64, api.Errno) { return clock.New(p).Now() },
		func(p *port.Port) (uint64, api.Errno) { return clock.New(p).After(9) },
	}
}

// P13.1, P13.2: the first access that has an error ends it, whichever that is; behind it there is no other one.
func TestDownWithin(t *testing.T) {
	// By these there are two rounds. (A third one takes more ticks than a watchdog can wait.)
	calm := []uint32{3, 0, 2, 4, 1}
	ahead := uint32(0)
	for n, gap := range calm {
		gaps := append([]uint32{}, calm...)
		gaps[n] = 50
		for i, call := range readers() {
			p := at(t, 1<<32-4, gaps...)
			watch(t, p, ahead+10)
			if v, e := call(p); v != 0 || e != api.ErrDown || p.Made() != n+1 || !p.Down() {
				t.Error(n, i, v, e, p.Made())
			}
			if v, e := call(p); v != 0 || e != api.ErrDown || p.Made() != n+1 {
				t.Error(n, i, v, e, p.Made())
			}
			p.Boot()
			if v, e := call(p); v == 0 || e != api.OK {
				t.Error(n, i, v, e)
			}
		}
		ahead += gap
	}
}

// P13.1, P13.2: a reset at the last access's gap, and one a tick later.
func TestDownToATick(t *testing.T) {
	for i, call := range readers() {
		p := at(t, 20, 3, 5, 7)
		watch(t, p, 15)
		if v, e := call(p); v != 0 || e != api.ErrDown || p.Made() != 3 || p.Board().Time() != 35 {
			t.Error(i, v, e, p.Made())
		}
		p = at(t, 20, 3, 5, 7)
		watch(t, p, 16)
		want := []uint64{28, never - 28, 28, 37}[i]
		if v, e := call(p); v != want || e != api.OK || p.Made() != 3 || p.Down() {
			t.Error(i, v, e, p.Made())
		}
	}
}

// P13.1: a port that is down ahead of it.
func TestDownAhead(t *testing.T) {
	for i, call := range readers() {
		p := at(t, 20, 3)
		reset(t, p)
		if v, e := call(p); v != 0 || e != api.ErrDown || p.Made() != 0 || p.Board().Time() != 20 {
			t.Error(i, v, e, p.Made())
		}
	}
}

// P13.1: how much later a time is.
func TestUntil(t *testing.T) {
	p := at(t, 1000)
	for _, x := range [][2]uint64{{0, 0}, {1, 0}, {999, 0}, {1000, 0}, {1001, 1}, {1002, 2}, {5000, 4000}, {1 << 32, 1<<32 - 1000}, {1<<63 + 1000, 1 << 63}, {never - 1, never - 1001}, {never, never - 1000}} {
		until(t, p, x[0], x[1])
	}
	p = at(t, never)
	for _, d := range []uint64{0, 1, 1 << 63, never - 1, never} {
		until(t, p, d, 0)
	}
	p = at(t, 0)
	for _, d := range []uint64{0, 1, 1 << 63, never - 1, never} {
		until(t, p, d, d)
	}
	// It is the time of the access between, and by as many of them as Read makes.
	p = at(t, 1000, 2, 5, 9)
	until(t, p, 1007, 0)
	until(t, p, 1024, 1)
	if p.Made() != 6 {
		t.Error(p.Made())
	}
	p = at(t, 1<<32-1, 0, 1, 0)
	until(t, p, 1<<32+5, 5)
	if p.Made() != 5 {
		t.Error(p.Made())
	}
}

// P13.2: Now is Read's answer, and Last is the last one of it.
func TestNow(t *testing.T) {
	p := at(t, 50, 1)
	c := clock.New(p)
	if c.Last() != 0 {
		t.Error(c.Last())
	}
	now(t, c, 52)
	now(t, c, 55)
	if p.Made() != 6 {
		t.Error(p.Made())
	}
	p.Board().Tick(100)
	if c.Last() != 55 {
		t.Error(c.Last())
	}
	now(t, c, 158)
	c = clock.New(at(t, 1<<32-1, 0, 1, 0))
	now(t, c, 1<<32)
	c = clock.New(at(t, 3<<32+100, skips(4, true)...))
	now(t, c, 7<<32)
	c = clock.New(at(t, 0))
	now(t, c, 0)
	c = clock.New(at(t, never))
	now(t, c, never)
}

// P13.2: Last is what this clock read, not what others did.
func TestLastIsItsOwn(t *testing.T) {
	p := at(t, 50, 1)
	c, d := clock.New(p), clock.New(p)
	now(t, c, 52)
	read(t, p, 55, 3)
	until(t, p, 100, 42)
	if c.Last() != 52 || d.Last() != 0 {
		t.Error(c.Last(), d.Last())
	}
	now(t, d, 61)
	after(t, d, 6, 70, 64)
	if c.Last() != 52 || d.Last() != 64 {
		t.Error(c.Last(), d.Last())
	}
	now(t, c, 67)
}

// P13.2: a time that wasn't read leaves Last as it was.
func TestLastBehindErrors(t *testing.T) {
	p := at(t, 20, 3, 5, 7)
	c := clock.New(p)
	reset(t, p)
	if v, e := c.Now(); v != 0 || e != api.ErrDown || c.Last() != 0 {
		t.Error(v, e, c.Last())
	}
	p.Boot()
	now(t, c, 28)
	// The lower word was read without an error.
	for _, call := range []func() (uint64, api.Errno){c.Now, func() (uint64, api.Errno) { return c.After(1) }} {
		watch(t, p, 10)
		if v, e := call(); v != 0 || e != api.ErrDown || c.Last() != 28 {
			t.Error(v, e, c.Last())
		}
		if v, e := call(); v != 0 || e != api.ErrDown || c.Last() != 28 {
			t.Error(v, e, c.Last())
		}
		p.Boot()
	}
	now(t, c, 20+4*15-7)
}

// P13.2: After is the time and the delay, which don't run over.
func TestAfter(t *testing.T) {
	c := clock.New(at(t, 1000))
	for _, x := range [][2]uint64{{0, 1000}, {1, 1001}, {1 << 32, 1<<32 + 1000}, {1 << 63, 1<<63 + 1000}, {never - 1001, never - 1}, {never - 1000, never}, {never - 999, never}, {never - 1, never}, {never, never}} {
		after(t, c, x[0], x[1], 1000)
	}
	c = clock.New(at(t, never))
	for _, delay := range []uint64{0, 1, 1 << 63, never} {
		after(t, c, delay, never, never)
	}
	c = clock.New(at(t, 0))
	for _, delay := range []uint64{0, 1, 1 << 63, never} {
		after(t, c, delay, delay, 0)
	}
	p := at(t, 1<<32-1, 0, 1, 0)
	after(t, clock.New(p), 7, 1<<32+7, 1<<32)
	if p.Made() != 5 {
		t.Error(p.Made())
	}
	p = at(t, 40, 1)
	c = clock.New(p)
	after(t, c, 8, 50, 42)
	after(t, c, 8, 53, 45)
	if p.Made() != 6 {
		t.Error(p.Made())
	}
}

// P13.2: it reads through the very port: that one's gaps, boots and accesses by others count.
func TestThroughItsPort(t *testing.T) {
	p := at(t, 10, 1, 2)
	c := clock.New(p)
	if p.Made() != 0 || p.Board().Time() != 10 {
		t.Error("New made accesses")
	}
	now(t, c, 13)
	if v, e := p.Load(timeLo); v != 16 || e != api.OK {
		t.Error(v, e)
	}
	if e := p.Gaps(20); e != api.OK {
		t.Error(e)
	}
	now(t, c, 56)
	if p.Made() != 7 || p.Spent() != 66 {
		t.Error(p.Made(), p.Spent())
	}
	reset(t, p)
	if v, e := c.Now(); v != 0 || e != api.ErrDown {
		t.Error(v, e)
	}
	if p.Boot() != 1 {
		t.Error("boot")
	}
	now(t, c, 116)
	// Another port to the board is another one's.
	q, e := port.New(p.Board(), 1)
	if e != api.OK {
		t.Fatal(e)
	}
	reset(t, p)
	p.Boot()
	now(t, c, 176)
	if v, e := clock.New(q).Now(); v != 0 || e != api.ErrDown {
		t.Error(v, e)
	}
}

// P13.1: reading stores nothing.
func TestReadLeavesTheBoard(t *testing.T) {
	p := at(t, 1<<32-1, 0, 1, 0)
	watch(t, p, 100)
	same := p.Board().Copy()
	c := clock.New(p)
	now(t, c, 1<<32)
	after(t, c, 5, 1<<32+6, 1<<32+1)
	until(t, p, 1<<33, 1<<33-1<<32-2)
	b := p.Board()
	same.Tick(b.Time() - same.Time())
	if *b.Dog() != *same.Dog() || *b.Rtc() != *same.Rtc() || b.High() != same.High() || b.Compare(0) != same.Compare(0) || len(b.Resets()) != 0 {
		t.Error("another board")
	}
}

// P13.2, P13.3: nil ports and clocks.
func TestNil(t *testing.T) {
	if clock.New(nil) != nil {
		t.Error("a clock")
	}
	for _, d := range []uint64{0, 1, 1 << 63, never} {
		if v, e := clock.Read(nil); v != 0 || e != api.ErrArg {
			t.Error(v, e)
		}
		if v, e := clock.Until(nil, d); v != 0 || e != api.ErrArg {
			t.Error(v, e)
		}
		var c *clock.Clock
		if v, e := c.Now(); v != 0 || e != api.ErrArg {
			t.Error(v, e)
		}
		if v, e := c.After(d); v != 0 || e != api.ErrArg {
			t.Error(v, e)
		}
		if c.Last() != 0 {
			t.Error(c.Last())
		}
	}
}
