package port_test

import (
	"slices"
	"testing"

	"minuterie/api"
	"minuterie/board"
	"minuterie/port"
)

const (
	all   = 1<<32 - 1
	never = uint64(1<<64 - 1)
)

// Registers' addresses.
const (
	compareLo  = board.ClintAt + 0x4000
	compareHi  = board.ClintAt + 0x4004
	timeLo     = board.ClintAt + 0xbff8
	timeHi     = board.ClintAt + 0xbffc
	countLoad  = board.BankAt
	countValue = board.BankAt + 4
	countOrder = board.BankAt + 8
	dogControl = board.WdogAt
	dogClosed  = board.WdogAt + 4
	dogTotal   = board.WdogAt + 8
	dogKey     = board.WdogAt + 0xc
	dogSince   = board.WdogAt + 0x10
	causes     = board.RstcAt
	many       = board.RstcAt + 4
	resetKey   = board.RstcAt + 8
	alarmLo    = board.RtcAt + 0x10
	rtcControl = board.RtcAt + 0x18
	mask       = board.LinesAt + 4
	nowhere    = 0x1000
)

// What is stored: the reset controller's key, a key that no watchdog has, and its two.
const (
	asks   = 0xb007
	wrong  = 1
	first  = 0x5a5a
	second = 0xa5a5
)

func next(n uint64) uint64 { return n*6364136223846793005 + 1442695040888963407 }

func young(t *testing.T) *board.Board {
	t.Helper()
	b, e := board.New(board.Config{Harts: 1, Counts: 1, Div: 3})
	if e != api.OK {
		t.Fatal(e)
	}
	return b
}

func to(t *testing.T, b *board.Board, gaps ...uint32) *port.Port {
	t.Helper()
	p, e := port.New(b, gaps...)
	if e != api.OK || p == nil {
		t.Fatal(p, e)
	}
	return p
}

// reset is one by the board's own store.
func reset(t *testing.T, b *board.Board) {
	t.Helper()
	if e := b.Store(resetKey, asks); e != api.OK {
		t.Fatal(e)
	}
}

// watch enables the watchdog by the board's own stores.
func watch(t *testing.T, b *board.Board, closed, total uint32) {
	t.Helper()
	for _, x := range [][2]uint32{{dogClosed, closed}, {dogTotal, total}, {dogControl, 1}} {
		if e := b.Store(x[0], x[1]); e != api.OK {
			t.Fatal(x, e)
		}
	}
}

func load(t *testing.T, p *port.Port, addr, want uint32) {
	t.Helper()
	if v, e := p.Load(addr); v != want || e != api.OK {
		t.Fatalf("%x: %x, %d, not %x", addr, v, e, want)
	}
}

// told looks at what a port counts, and its board's time.
func told(t *testing.T, p *port.Port, made int, spent, time uint64) {
	t.Helper()
	if p.Made() != made || p.Spent() != spent || p.Board().Time() != time {
		t.Fatal(p.Made(), p.Spent(), p.Board().Time(), "not", made, spent, time)
	}
}

// shut looks whether a port is down, and does nothing.
func shut(t *testing.T, p *port.Port) {
	t.Helper()
	made, spent, time := p.Made(), p.Spent(), p.Board().Time()
	for _, addr := range []uint32{timeLo, mask, dogKey, resetKey, nowhere, 1, all} {
		if v, e := p.Load(addr); v != 0 || e != api.ErrDown {
			t.Fatalf("%x: %x, %d", addr, v, e)
		}
		if e := p.Store(addr, asks); e != api.ErrDown {
			t.Fatalf("%x: %d", addr, e)
		}
	}
	if !p.Down() {
		t.Fatal("not down")
	}
	told(t, p, made, spent, time)
}

// numbers are n gaps, each another one.
func numbers(n int) []uint32 {
	l := make([]uint32, n)
	for i := range l {
		l[i] = uint32(i*i + 1)
	}
	return l
}

// P12.1: New, of all counts of gaps up to beyond the bound.
func TestNew(t *testing.T) {
	b := young(t)
	b.Tick(7)
	for n := range 70 {
		p, e := port.New(b, numbers(n)...)
		if n > api.MaxGaps {
			if p != nil || e != api.ErrMany {
				t.Error(n, p, e)
			}
		} else if e != api.OK || p == nil || p.Down() || p.Made() != 0 || p.Spent() != 0 || p.Board() != b || p.Boot() != 0 {
			t.Error(n, p, e)
		}
		if p, e := port.New(nil, numbers(n)...); p != nil || e != api.ErrArg {
			t.Error(n, p, e)
		}
	}
	if p, e := port.New(b, make([]uint32, 1<<16)...); p != nil || e != api.ErrMany {
		t.Error(p, e)
	}
	if b.Time() != 7 || len(b.Resets()) != 0 {
		t.Error(b.Time(), b.Resets())
	}
}

// P12.1: resets ahead of New aren't told.
func TestNewBehindResets(t *testing.T) {
	b := young(t)
	for i := range 4 {
		p := to(t, b, 2)
		if p.Down() || p.Boot() != 0 {
			t.Error(i)
		}
		load(t, p, many, uint32(i))
		reset(t, b)
		shut(t, p)
		if p.Boot() != 1 || p.Boot() != 0 {
			t.Error(i)
		}
	}
}

// The chapter's example.
func TestExample(t *testing.T) {
	b := young(t)
	p := to(t, b, 3, 5)
	for i, want := range []uint32{3, 8, 11} {
		load(t, p, timeLo, want)
		told(t, p, i+1, uint64(want), uint64(want))
	}
}

// P12.1, P12.2: the gaps are gone round, each ahead of its access, whatever that answers.
func TestGapsRound(t *testing.T) {
	for _, n := range []int{0, 1, 2, 3, 5, 63, 64} {
		b := young(t)
		gaps := numbers(n)
		p := to(t, b, gaps...)
		time := uint64(0)
		for i := range 200 {
			if n > 0 {
				time += uint64(gaps[i%n])
			}
			switch i % 7 {
			case 0, 2:
				load(t, p, timeLo, uint32(time))
			case 1:
				if v, e := p.Load(nowhere); v != 0 || e != api.ErrBus {
					t.Fatal(i, v, e)
				}
			case 3:
				if e := p.Store(mask, uint32(i)); e != api.OK {
					t.Fatal(i, e)
				}
			case 4:
				if e := p.Store(timeLo, 1); e != api.ErrRead {
					t.Fatal(i, e)
				}
			case 5:
				if v, e := p.Load(mask + 2); v != 0 || e != api.ErrAlign {
					t.Fatal(i, v, e)
				}
			case 6:
				if e := p.Store(mask+1, 1); e != api.ErrAlign {
					t.Fatal(i, e)
				}
			}
			told(t, p, i+1, time, time)
		}
	}
}

// P12.1: Load and Store are the board's, behind the gap: what the gap did is told.
func TestBehindTheGap(t *testing.T) {
	b := young(t)
	p := to(t, b, 4)
	for _, x := range [][2]uint32{{countLoad, 20}, {countOrder, 1}} {
		if e := p.Store(x[0], x[1]); e != api.OK {
			t.Fatal(e)
		}
	}
	// It was started at the access, not ahead of its gap.
	load(t, p, countValue, 16)
	load(t, p, countValue, 12)
	if e := p.Store(dogTotal, 9); e != api.OK {
		t.Fatal(e)
	}
	if e := p.Store(dogControl, 1); e != api.OK {
		t.Fatal(e)
	}
	load(t, p, dogSince, 4)
	load(t, p, dogSince, 8)
	told(t, p, 8, 32, 32)
	if v, e := b.Load(dogTotal); v != 9 || e != api.OK {
		t.Error(v, e)
	}
}

// P12.1: the board's errors, at each kind of address.
func TestErrors(t *testing.T) {
	b := young(t)
	p := to(t, b)
	same := b.Copy()
	for _, addr := range []uint32{0, 1, 2, 3, 4, nowhere, compareLo + 8, timeLo - 4, timeLo, timeLo + 1, timeHi, timeHi + 4, countValue, countValue + 3, dogSince, dogSince + 4, many, many + 2, resetKey + 4, board.RtcAt, board.LinesAt, board.LinesAt + 8, board.LinesAt + 12, mask, all - 3, all} {
		v, e := p.Load(addr)
		if want, answer := same.Load(addr); v != want || e != answer {
			t.Errorf("%x: %x, %d, not %x, %d", addr, v, e, want, answer)
		}
		if e, want := p.Store(addr, 5), same.Store(addr, 5); e != want {
			t.Errorf("%x: %d, not %d", addr, e, want)
		}
	}
	if p.Down() || p.Made() != 52 || p.Spent() != 0 || b.Time() != 0 {
		t.Error(p.Down(), p.Made())
	}
}

// P12.1, P12.2: an access by whose gap the port goes down isn't made, but was begun; the whole gap passes.
func TestDownByTheGap(t *testing.T) {
	for _, gap := range []uint32{5, 6, 11, 100} {
		for _, loads := range []bool{true, false} {
			b := young(t)
			p := to(t, b, 1, 2, gap)
			load(t, p, timeLo, 1)
			load(t, p, timeLo, 3)
			watch(t, b, 0, 5)
			if loads {
				if v, e := p.Load(timeLo); v != 0 || e != api.ErrDown {
					t.Error(v, e)
				}
			} else if e := p.Store(mask, 7); e != api.ErrDown {
				t.Error(e)
			}
			time := 3 + uint64(gap)
			told(t, p, 3, time, time)
			if l := b.Resets(); len(l) != 1 || l[0].At != 8 {
				t.Error(l)
			}
			shut(t, p)
			if p.Boot() != 1 || p.Down() {
				t.Error("boot")
			}
			// What wasn't made changed nothing, and the next gap is the next one's.
			load(t, p, mask, 0)
			told(t, p, 4, time+1, time+1)
		}
	}
}

// P12.1: an error of the board isn't told, if the port goes down by the gap.
func TestDownAheadOfErrors(t *testing.T) {
	for _, addr := range []uint32{nowhere, 1, timeLo + 2, dogSince} {
		b := young(t)
		watch(t, b, 0, 5)
		p := to(t, b, 5)
		if e := p.Store(addr, 1); e != api.ErrDown {
			t.Errorf("%x: %d", addr, e)
		}
		b = young(t)
		watch(t, b, 0, 5)
		p = to(t, b, 5)
		if v, e := p.Load(addr); v != 0 || e != api.ErrDown {
			t.Errorf("%x: %x, %d", addr, v, e)
		}
	}
}

// P12.1: a gap just short of the watchdog's fault doesn't take it down.
func TestUpByTheGap(t *testing.T) {
	b := young(t)
	watch(t, b, 0, 5)
	p := to(t, b, 4, 0, 1)
	load(t, p, dogSince, 4)
	load(t, p, dogSince, 4)
	if v, e := p.Load(dogSince); v != 0 || e != api.ErrDown {
		t.Error(v, e)
	}
	told(t, p, 3, 5, 5)
}

// P12.1: accesses that reset the board themselves were made.
func TestDownByTheAccess(t *testing.T) {
	b := young(t)
	p := to(t, b, 3)
	if e := p.Store(resetKey, asks); e != api.ErrDown {
		t.Error(e)
	}
	told(t, p, 1, 3, 3)
	shut(t, p)
	if l := b.Resets(); len(l) != 1 || l[0] != (board.Event{At: 3, Cause: 16}) || p.Boot() != 1 {
		t.Error(l)
	}
	watch(t, b, 9, 20)
	if e := p.Store(dogKey, wrong); e != api.ErrDown {
		t.Error(e)
	}
	told(t, p, 2, 6, 6)
	if l := b.Resets(); len(l) != 2 || l[1] != (board.Event{At: 6, Cause: 8}) || p.Boot() != 1 {
		t.Error(l)
	}
	watch(t, b, 9, 20)
	if e := p.Store(dogKey, first); e != api.OK {
		t.Error(e)
	}
	if e := p.Store(dogKey, second); e != api.ErrDown {
		t.Error(e)
	}
	if l := b.Resets(); len(l) != 3 || l[2] != (board.Event{At: 12, Cause: 4}) {
		t.Error(l)
	}
	told(t, p, 4, 12, 12)
	shut(t, p)
}

// P12.1, P12.2: resets by others, by their ticks, stores and ports, take it down, too, each port by itself.
func TestDownByOthers(t *testing.T) {
	b := young(t)
	p, q := to(t, b, 3), to(t, b, 10)
	watch(t, b, 0, 5)
	b.Tick(4)
	if p.Down() || q.Down() {
		t.Error("down too early")
	}
	b.Tick(1)
	shut(t, p)
	shut(t, q)
	if p.Boot() != 1 || p.Down() || !q.Down() {
		t.Error("boot")
	}
	load(t, p, many, 1)
	told(t, p, 1, 3, 8)
	shut(t, q)
	if e := p.Store(resetKey, asks); e != api.ErrDown || p.Boot() != 1 || q.Boot() != 2 {
		t.Error(e)
	}
	watch(t, b, 0, 10)
	if v, e := q.Load(many); v != 0 || e != api.ErrDown || q.Boot() != 1 {
		t.Error(v, e)
	}
	told(t, q, 1, 10, 21)
	shut(t, p)
	reset(t, b)
	if p.Boot() != 2 || q.Boot() != 1 || p.Down() || q.Down() {
		t.Error("boot")
	}
}

// P12.2: Boot tells how many resets there were since the last one.
func TestBoot(t *testing.T) {
	b := young(t)
	p := to(t, b, 3)
	for n := range 12 {
		for range n {
			reset(t, b)
			shut(t, p)
		}
		if p.Down() != (n > 0) || p.Boot() != n || p.Down() || p.Boot() != 0 || p.Down() {
			t.Error(n)
		}
	}
	told(t, p, 0, 0, 0)
	load(t, p, many, 66)
	// By one access there may be a reset in the gap alone, as what isn't made resets nothing.
	watch(t, b, 0, 3)
	if e := p.Store(resetKey, asks); e != api.ErrDown || p.Boot() != 1 || len(b.Resets()) != 67 {
		t.Error(e, b.Resets())
	}
}

// P12.2: Gaps are those from then on, counted as before.
func TestGaps(t *testing.T) {
	b := young(t)
	p := to(t, b, 3, 5)
	time, made := uint64(0), 0
	some := func(n int, gap func(made int) uint64) {
		t.Helper()
		for range n {
			time += gap(made)
			made++
			load(t, p, timeLo, uint32(time))
			told(t, p, made, time, time)
		}
	}
	change := func(gaps ...uint32) {
		t.Helper()
		if e := p.Gaps(gaps...); e != api.OK {
			t.Fatal(e)
		}
		told(t, p, made, time, time)
	}
	some(3, func(made int) uint64 { return []uint64{3, 5}[made%2] })
	change(100, 200, 300, 400, 500)
	some(9, func(made int) uint64 { return []uint64{100, 200, 300, 400, 500}[made%5] })
	// A refused call leaves them as they are.
	for _, n := range []int{65, 66, 1000} {
		if e := p.Gaps(make([]uint32, n)...); e != api.ErrMany {
			t.Error(n, e)
		}
	}
	some(6, func(made int) uint64 { return []uint64{100, 200, 300, 400, 500}[made%5] })
	change()
	some(5, func(int) uint64 { return 0 })
	l := numbers(64)
	change(l...)
	some(130, func(made int) uint64 { return uint64(l[made%64]) })
	change(7)
	some(2, func(int) uint64 { return 7 })
	change(0, 9)
	some(5, func(made int) uint64 { return []uint64{0, 9}[made%2] })
}

// P12.2: Gaps of a port that is down.
func TestGapsWhileDown(t *testing.T) {
	b := young(t)
	p := to(t, b, 3)
	reset(t, b)
	if e := p.Gaps(8, 9); e != api.OK {
		t.Error(e)
	}
	shut(t, p)
	if e := p.Gaps(make([]uint32, 65)...); e != api.ErrMany {
		t.Error(e)
	}
	p.Boot()
	load(t, p, timeLo, 8)
	load(t, p, timeLo, 17)
	told(t, p, 2, 17, 17)
}

// What is handed in is neither kept nor changed, its spare room neither.
func TestGapsAreTheirOwn(t *testing.T) {
	for _, other := range []bool{false, true} {
		b := young(t)
		room := []uint32{3, 5, 70, 80, 90}
		gaps := room[:2]
		p := to(t, b)
		if other {
			if e := p.Gaps(gaps...); e != api.OK {
				t.Error(e)
			}
		} else {
			p = to(t, b, gaps...)
		}
		load(t, p, timeLo, 3)
		q := p.Copy(b.Copy())
		room[0], room[1] = 1000, 1000
		load(t, p, timeLo, 8)
		load(t, p, timeLo, 11)
		if e := q.Gaps(1, 2); e != api.OK {
			t.Error(e)
		}
		load(t, p, timeLo, 16)
		if !slices.Equal(room, []uint32{1000, 1000, 70, 80, 90}) {
			t.Error(room)
		}
	}
}

// P12.2: Board is the very board.
func TestBoard(t *testing.T) {
	b, c := young(t), young(t)
	p, q := to(t, b), to(t, c)
	if p.Board() != b || q.Board() != c || p.Copy(c).Board() != c || p.Copy(b).Board() != b {
		t.Error("board")
	}
	if e := p.Store(mask, 6); e != api.OK {
		t.Error(e)
	}
	if v, e := b.Load(mask); v != 6 || e != api.OK {
		t.Error(v, e)
	}
	if v, e := c.Load(mask); v != 0 || e != api.OK {
		t.Error(v, e)
	}
}

// P12.2: a copy is the same, and goes on by itself.
func TestCopy(t *testing.T) {
	b := young(t)
	p := to(t, b, 3, 5, 7)
	load(t, p, timeLo, 3)
	c := b.Copy()
	q := p.Copy(c)
	told(t, q, 1, 3, 3)
	load(t, q, timeLo, 8)
	load(t, q, timeLo, 15)
	told(t, q, 3, 15, 15)
	told(t, p, 1, 3, 3)
	load(t, p, timeLo, 8)
	told(t, p, 2, 8, 8)
	told(t, q, 3, 15, 15)
	if e := p.Gaps(1); e != api.OK {
		t.Error(e)
	}
	load(t, q, timeLo, 18)
	load(t, p, timeLo, 9)
	reset(t, c)
	if !q.Down() || p.Down() || q.Boot() != 1 || p.Boot() != 0 {
		t.Error("down")
	}
	reset(t, b)
	if !p.Down() || q.Down() {
		t.Error("down")
	}
}

// P12.2: a copy has as many resets seen, be it down or not.
func TestCopyOfDown(t *testing.T) {
	b := young(t)
	p := to(t, b, 3)
	reset(t, b)
	p.Boot()
	load(t, p, many, 1)
	if q := p.Copy(b.Copy()); q.Down() || q.Boot() != 0 {
		t.Error("down")
	}
	reset(t, b)
	reset(t, b)
	q := p.Copy(b.Copy())
	shut(t, q)
	told(t, q, 1, 3, 3)
	if q.Boot() != 2 || q.Down() || !p.Down() {
		t.Error("boot")
	}
	load(t, q, many, 3)
	told(t, q, 2, 6, 6)
	if r := q.Copy(b); r.Down() || !p.Down() || p.Copy(b).Boot() != 2 || p.Boot() != 2 {
		t.Error("boot")
	}
	// To another board, which had more of them.
	c := young(t)
	for range 5 {
		reset(t, c)
	}
	r := p.Copy(c)
	shut(t, r)
	if r.Boot() != 2 || r.Down() {
		t.Error("boot")
	}
}

// P1: copies to boards that had fewer resets end all the same.
func TestCopyToYounger(t *testing.T) {
	b := young(t)
	p := to(t, b, 3)
	reset(t, b)
	reset(t, b)
	p.Boot()
	q := p.Copy(young(t))
	q.Down()
	q.Load(timeLo)
	q.Store(resetKey, asks)
	q.Boot()
	if q.Down() {
		t.Error("boot")
	}
	if e := q.Store(resetKey, asks); e != api.ErrDown || q.Boot() != 1 || q.Boot() != 0 {
		t.Error(e)
	}
}

func TestCopyToNil(t *testing.T) {
	p := to(t, young(t), 3)
	if p.Copy(nil) != nil {
		t.Error("a copy")
	}
	told(t, p, 0, 0, 0)
}

// P12.2, P12.3: the greatest gaps are counted by all their bits.
func TestGreatGaps(t *testing.T) {
	b := young(t)
	p := to(t, b, all, all-1, 1<<31)
	var time uint64
	for i := range 30 {
		time += []uint64{all, all - 1, 1 << 31}[i%3]
		load(t, p, timeHi, uint32(time>>32))
		told(t, p, i+1, time, time)
	}
}

// P12.1: at the time's end accesses go on.
func TestLastTick(t *testing.T) {
	b := young(t)
	b.Tick(never - 5)
	p := to(t, b, 2, 2, 2, 2)
	load(t, p, timeLo, all-3)
	load(t, p, timeLo, all-1)
	load(t, p, timeLo, all)
	load(t, p, timeHi, all)
	load(t, p, timeLo, all)
	if b.Time() != never || p.Made() != 5 {
		t.Error(b.Time(), p.Made())
	}
}

// P12.3: a nil port, also where there is more that is wrong.
func TestNilPort(t *testing.T) {
	var p *port.Port
	for _, addr := range []uint32{0, 1, timeLo, mask, all} {
		if v, e := p.Load(addr); v != 0 || e != api.ErrArg {
			t.Error(v, e)
		}
		if e := p.Store(addr, asks); e != api.ErrArg {
			t.Error(e)
		}
	}
	for _, n := range []int{0, 1, 64, 65, 1000} {
		if e := p.Gaps(make([]uint32, n)...); e != api.ErrArg {
			t.Error(n, e)
		}
	}
	if !p.Down() || p.Boot() != 0 || !p.Down() || p.Spent() != 0 || p.Made() != 0 || p.Board() != nil || p.Copy(nil) != nil || p.Copy(young(t)) != nil {
		t.Error("nil")
	}
}
