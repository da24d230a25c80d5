package shot_test

import (
	"testing"

	"minuterie/api"
	"minuterie/board"
	"minuterie/port"
	"minuterie/shot"
)

const (
	all   = 1<<32 - 1
	never = uint64(1<<64 - 1)
)

// Registers' addresses, and the reset controller's key.
const (
	softs      = board.ClintAt
	compares   = board.ClintAt + 0x4000
	timeLo     = board.ClintAt + 0xbff8
	dogControl = board.WdogAt
	dogTotal   = board.WdogAt + 8
	resetKey   = board.RstcAt + 8
	mask       = board.LinesAt + 4
	asks       = 0xb007
)

// numbers are deadlines whose halves are little, great, or the same.
var numbers = [...]uint64{0, 1, 5, 4096, 1<<31 - 1, 1 << 31, 1<<32 - 2, 1<<32 - 1, 1 << 32, 1<<32 + 1, 1<<32 + 5, 1<<40 | 9, 2<<32 - 1, 2 << 32, 3<<32 | 4, 0x12345678_9abcdef0, 1<<63 - 1, 1 << 63, never - 1<<32, never - 1<<32 + 1, never - 1, never}

// of is a port to a new board of so many harts.
func of(t *testing.T, harts int, gaps ...uint32) *port.Port {
	t.Helper()
	b, e := board.New(board.Config{Harts: harts, Counts: 1, Div: 3})
	if e != api.OK {
		t.Fatal(e)
	}
	p, e := port.New(b, gaps...)
	if e != api.OK {
		t.Fatal(e)
	}
	return p
}

func on(t *testing.T, p *port.Port, hart int) *shot.Shot {
	t.Helper()
	s, e := shot.New(p, hart)
	if e != api.OK || s == nil {
		t.Fatal(s, e)
	}
	return s
}

// put stores by the board's own stores, which the port doesn't count.
func put(t *testing.T, p *port.Port, l ...[2]uint32) {
	t.Helper()
	for _, x := range l {
		if e := p.Board().Store(x[0], x[1]); e != api.OK {
			t.Fatal(x, e)
		}
	}
}

// set brings a number to a comparator, by the board's own stores.
func set(t *testing.T, p *port.Port, hart int, n uint64) {
	t.Helper()
	at := compares + 8*uint32(hart)
	put(t, p, [2]uint32{at, uint32(n)}, [2]uint32{at + 4, uint32(n >> 32)})
}

func reset(t *testing.T, p *port.Port) {
	t.Helper()
	put(t, p, [2]uint32{resetKey, asks})
}

// watch has the board reset so many ticks from now.
func watch(t *testing.T, p *port.Port, total uint32) {
	t.Helper()
	put(t, p, [2]uint32{dogTotal, total}, [2]uint32{dogControl, 1})
}

func arm(t *testing.T, s *shot.Shot, d uint64) {
	t.Helper()
	if e := s.Arm(d); e != api.OK || s.Armed() != d {
		t.Fatal(d, e, s.Armed())
	}
}

// is looks at a shot and its comparator.
func is(t *testing.T, s *shot.Shot, p *port.Port, armed, compare uint64) {
	t.Helper()
	if s.Armed() != armed || p.Board().Compare(s.Hart()) != compare {
		t.Fatal(s.Armed(), p.Board().Compare(s.Hart()), "not", armed, compare)
	}
}

// ways are both calls that arm.
func ways() []func(s *shot.Shot) api.Errno {
	return []func(s *shot.Shot) api.Errno{
		func(s *shot.Shot) api.Errno { return s.Arm(77) },
		(*shot.Shot).Disarm,
	}
}

// P14.2: the chapter's example, and other deadlines.
func TestWords(t *testing.T) {
	if shot.Words(4294967301) != [3]uint32{all, 1, 5} {
		t.Error(shot.Words(4294967301))
	}
	for _, d := range numbers {
		if w := shot.Words(d); w != [3]uint32{all, uint32(d >> 32), uint32(d % (1 << 32))} {
			t.Error(d, w)
		}
	}
}

// P14.1: New refuses a nil port ahead of all else, and harts that aren't there.
func TestNew(t *testing.T) {
	harts := []int{-1 << 63, -1 << 32, -8, -1, 0, 1, 2, 3, 4, 5, 6, 7, 8, 9, 64, 1 << 29, 1 << 32, 1<<63 - 1}
	for _, hart := range harts {
		if s, e := shot.New(nil, hart); s != nil || e != api.ErrArg {
			t.Error(hart, s, e)
		}
	}
	for n := 1; n <= 8; n++ {
		p := of(t, n, 1)
		for _, hart := range harts {
			s, e := shot.New(p, hart)
			switch {
			case hart < 0 || hart >= n:
				if s != nil || e != api.ErrRange {
					t.Error(n, hart, s, e)
				}
			case e != api.OK || s.Hart() != hart || s.Armed() != never || s.Pending():
				t.Error(n, hart, s, e)
			}
		}
		if p.Made() != 0 || p.Board().Time() != 0 {
			t.Error("New made accesses")
		}
	}
}

// P14.1: New leaves the comparator as it is; a port that is down doesn't hinder it.
func TestNewLeavesTheBoard(t *testing.T) {
	p := of(t, 2, 1)
	set(t, p, 1, 30)
	s := on(t, p, 1)
	is(t, s, p, never, 30)
	p.Board().Tick(30)
	if !s.Pending() {
		t.Error("low")
	}
	is(t, s, p, never, 30)
	reset(t, p)
	s = on(t, p, 1)
	is(t, s, p, never, never)
	if s, e := shot.New(p, 2); s != nil || e != api.ErrRange {
		t.Error(s, e)
	}
	if !p.Down() || p.Made() != 0 {
		t.Error(p.Down(), p.Made())
	}
}

// P14.1, P14.3: behind Arm the comparator is the deadline, whatever it was; no other one is touched.
func TestArm(t *testing.T) {
	for hart := range 8 {
		p := of(t, 8)
		for h := range 8 {
			set(t, p, h, uint64(h)<<33|7)
		}
		s := on(t, p, hart)
		for _, was := range numbers {
			for _, d := range numbers {
				set(t, p, hart, was)
				made := p.Made()
				arm(t, s, d)
				is(t, s, p, d, d)
				if p.Made() != made+3 {
					t.Fatal(p.Made(), made)
				}
			}
		}
		for h := range 8 {
			if c := p.Board().Compare(h); h != hart && c != uint64(h)<<33|7 {
				t.Error(hart, h, c)
			}
		}
		if s.Hart() != hart {
			t.Error(s.Hart())
		}
	}
}

// P14.1: nothing else of the board is another one behind it.
func TestArmLeavesTheBoard(t *testing.T) {
	p := of(t, 3, 2)
	put(t, p, [2]uint32{softs + 8, 1}, [2]uint32{mask, 0xffff})
	watch(t, p, 1000)
	same := p.Board().Copy()
	s := on(t, p, 1)
	arm(t, s, 1<<32|9)
	b := p.Board()
	same.Tick(6)
	if b.Time() != 6 || *b.Dog() != *same.Dog() || *b.Rtc() != *same.Rtc() || b.High() != same.High() || b.Out() || len(b.Resets()) != 0 {
		t.Error("another board")
	}
	if v, e := b.Load(mask); v != 0xffff || e != api.OK {
		t.Error(v, e)
	}
	if b.Compare(0) != never || b.Compare(1) != 1<<32|9 || b.Compare(2) != never {
		t.Error(b.Compare(0), b.Compare(1), b.Compare(2))
	}
}

// P14.1, P14.3: it takes three accesses with their gaps, also for what it is armed for already.
func TestArmTakesThree(t *testing.T) {
	p := of(t, 1, 3, 5, 7, 11)
	s := on(t, p, 0)
	for i, x := range []struct{ d, time uint64 }{{100, 15}, {100, 34}, {1 << 40, 55}, {0, 78}, {never, 93}} {
		arm(t, s, x.d)
		is(t, s, p, x.d, x.d)
		if p.Made() != 3*i+3 || p.Board().Time() != x.time || p.Spent() != x.time {
			t.Error(i, p.Made(), p.Board().Time())
		}
	}
}

// P14.1: Disarm is Arm of Never.
func TestDisarm(t *testing.T) {
	p := of(t, 2, 1)
	s := on(t, p, 1)
	for _, d := range numbers {
		arm(t, s, d)
		made := p.Made()
		if e := s.Disarm(); e != api.OK || p.Made() != made+3 {
			t.Error(d, e, p.Made())
		}
		is(t, s, p, never, never)
		if s.Pending() {
			t.Error(d)
		}
	}
	// Also where it is armed for none.
	set(t, p, 1, 5)
	if e := s.Disarm(); e != api.OK || s.Pending() {
		t.Error(e)
	}
	is(t, s, p, never, never)
}

// P14.1: the line is high from the deadline on, to a tick.
func TestPending(t *testing.T) {
	p := of(t, 3)
	s := on(t, p, 1)
	arm(t, s, 1<<32|5)
	for _, x := range []struct {
		ticks uint64
		high  bool
	}{{5, false}, {1<<32 - 6, false}, {1, false}, {4, false}, {1, true}, {1, true}, {1 << 50, true}} {
		p.Board().Tick(x.ticks)
		if s.Pending() != x.high || s.Pending() != p.Board().Line(1) {
			t.Error(p.Board().Time(), s.Pending())
		}
	}
	now := p.Board().Time()
	for _, x := range []struct {
		d    uint64
		high bool
	}{{now + 1, false}, {now, true}, {never, false}, {now - 1, true}, {0, true}} {
		arm(t, s, x.d)
		if s.Pending() != x.high {
			t.Error(x.d, s.Pending())
		}
	}
	if p.Made() != 18 {
		t.Error("Pending made accesses")
	}
}

// P14.1: it is its own hart's timer line, whoever set the comparator; no soft line, and no other hart's.
func TestPendingIsTheLine(t *testing.T) {
	p := of(t, 8)
	p.Board().Tick(50)
	for hart := range 8 {
		put(t, p, [2]uint32{softs + 4*uint32(hart), 1})
	}
	for high := range 8 {
		set(t, p, high, 50)
		for hart := range 8 {
			if s := on(t, p, hart); s.Pending() != (hart == high) || s.Armed() != never {
				t.Error(high, hart)
			}
		}
		set(t, p, high, 51)
	}
}

// P14.1: a wire is there while the port is down, too; at the time Never each line is high.
func TestPendingWhileDown(t *testing.T) {
	p := of(t, 1, 4)
	s := on(t, p, 0)
	arm(t, s, 3)
	if !s.Pending() {
		t.Error("low")
	}
	reset(t, p)
	if s.Pending() {
		t.Error("high behind a reset")
	}
	set(t, p, 0, 20)
	p.Board().Tick(7)
	if s.Pending() {
		t.Error("high at 19")
	}
	p.Board().Tick(1)
	if !s.Pending() || !p.Down() || p.Made() != 3 {
		t.Error(p.Board().Time(), p.Made())
	}
	p.Boot()
	p.Board().Tick(never - 1 - p.Board().Time() - 12)
	if e := s.Disarm(); e != api.OK || s.Pending() {
		t.Error(e, p.Board().Time())
	}
	p.Board().Tick(1)
	is(t, s, p, never, never)
	if !s.Pending() {
		t.Error("low at Never")
	}
}

// P14.1: the first store that has an error is the last one; it is armed for Never then.
func TestDownWithin(t *testing.T) {
	for i, call := range ways() {
		for n := range 3 {
			// The reset is at the first tick of that store's gap, or at its last one.
			for _, within := range []int{1, 6} {
				p := of(t, 2, 6)
				s := on(t, p, 1)
				arm(t, s, 500)
				watch(t, p, uint32(6*n+within))
				if e := call(s); e != api.ErrDown || p.Made() != 4+n || p.Board().Time() != uint64(24+6*n) || !p.Down() {
					t.Error(i, n, within, e, p.Made(), p.Board().Time())
				}
				is(t, s, p, never, never)
				// Behind that no access is made, till the port boots.
				if e := call(s); e != api.ErrDown || p.Made() != 4+n || p.Board().Time() != uint64(24+6*n) {
					t.Error(i, n, within, e, p.Made(), p.Board().Time())
				}
				is(t, s, p, never, never)
				p.Boot()
				is(t, s, p, never, never)
				arm(t, s, 600)
				is(t, s, p, 600, 600)
			}
		}
	}
}

// P14.1: a reset a tick behind the last access is none within.
func TestDownBehind(t *testing.T) {
	p := of(t, 1, 3, 5, 7)
	s := on(t, p, 0)
	watch(t, p, 16)
	arm(t, s, 1000)
	is(t, s, p, 1000, 1000)
	// Nobody told the shot of it as yet.
	p.Board().Tick(1)
	is(t, s, p, 1000, never)
	if !p.Down() || p.Made() != 3 {
		t.Error(p.Down(), p.Made())
	}
	p.Boot()
	is(t, s, p, 1000, never)
	s.Lost()
	is(t, s, p, never, never)
	arm(t, s, 1000)
	is(t, s, p, 1000, 1000)
}

// P14.1: a port that is down ahead of it: no access, no gap, and it is armed for Never.
func TestDownAhead(t *testing.T) {
	for i, call := range ways() {
		p := of(t, 1, 3)
		s := on(t, p, 0)
		arm(t, s, 40)
		reset(t, p)
		set(t, p, 0, 50)
		is(t, s, p, 40, 50)
		if e := call(s); e != api.ErrDown || p.Made() != 3 || p.Board().Time() != 9 {
			t.Error(i, e, p.Made())
		}
		is(t, s, p, never, 50)
	}
}

// P14.1: Lost changes what it is armed for alone.
func TestLost(t *testing.T) {
	p := of(t, 1, 2)
	s := on(t, p, 0)
	s.Lost()
	is(t, s, p, never, never)
	for _, d := range numbers {
		arm(t, s, d)
		made, time := p.Made(), p.Board().Time()
		pending := s.Pending()
		s.Lost()
		is(t, s, p, never, d)
		s.Lost()
		is(t, s, p, never, d)
		if p.Made() != made || p.Board().Time() != time || s.Pending() != pending || s.Hart() != 0 {
			t.Error(d)
		}
	}
	arm(t, s, 9)
	is(t, s, p, 9, 9)
}

// P14.1: Armed is each shot's own, not what the comparator is.
func TestArmedIsItsOwn(t *testing.T) {
	p := of(t, 2, 1)
	a, b, other := on(t, p, 0), on(t, p, 0), on(t, p, 1)
	arm(t, a, 100)
	is(t, b, p, never, 100)
	arm(t, b, 200)
	is(t, a, p, 100, 200)
	arm(t, other, 300)
	a.Lost()
	is(t, a, p, never, 200)
	is(t, b, p, 200, 200)
	is(t, other, p, 300, 300)
	set(t, p, 0, 7)
	is(t, b, p, 200, 7)
	if p.Made() != 9 {
		t.Error(p.Made())
	}
}

// P14.1: it stores through the very port: that one's gaps, boots and accesses by others count.
func TestThroughItsPort(t *testing.T) {
	p := of(t, 1, 1, 2)
	s := on(t, p, 0)
	arm(t, s, 70)
	if v, e := p.Load(timeLo); v != 6 || e != api.OK {
		t.Error(v, e)
	}
	if e := p.Gaps(20); e != api.OK {
		t.Error(e)
	}
	arm(t, s, 80)
	if p.Made() != 7 || p.Spent() != 66 || p.Board().Time() != 66 {
		t.Error(p.Made(), p.Spent())
	}
	// Another port to the board is another one's.
	reset(t, p)
	q, e := port.New(p.Board(), 1)
	if e != api.OK {
		t.Fatal(e)
	}
	if e := s.Arm(90); e != api.ErrDown {
		t.Error(e)
	}
	arm(t, on(t, q, 0), 95)
	is(t, s, p, never, 95)
	if p.Boot() != 1 {
		t.Error("boot")
	}
	arm(t, s, 90)
	is(t, s, p, 90, 90)
}

// P14.3: a nil shot.
func TestNil(t *testing.T) {
	var s *shot.Shot
	for _, d := range numbers {
		if e := s.Arm(d); e != api.ErrArg {
			t.Error(d, e)
		}
	}
	if e := s.Disarm(); e != api.ErrArg {
		t.Error(e)
	}
	s.Lost()
	if s.Armed() != never || s.Pending() || s.Hart() != -1 {
		t.Error(s.Armed(), s.Pending(), s.Hart())
	}
}

// P1: calls of one that wasn't made by New end, too, as does New of such a port.
func TestZeroShot(t *testing.T) {
	var s shot.Shot
	s.Arm(1)
	s.Disarm()
	s.Lost()
	s.Armed()
	s.Pending()
	s.Hart()
	for _, hart := range []int{-1, 0, 1, 8} {
		shot.New(&port.Port{}, hart)
	}
}
