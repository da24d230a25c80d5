package wdog_test

import (
	"testing"

	"minuterie/api"
	"minuterie/bus"
	"minuterie/wdog"
)

const (
	all   = 1<<32 - 1
	never = uint64(1<<64 - 1)
)

// The registers' offsets.
const (
	control = 0
	closed  = 4
	total   = 8
	key     = 0xc
	since   = 0x10
)

// Control's bits.
const (
	enable = 1
	lock   = 2
)

// The faults, and the keys, as the document tells them.
const (
	timeout = 2
	early   = 4
	wrong   = 8
	first   = 0x5a5a
	second  = 0xa5a5
)

func next(n uint64) uint64 { return n*6364136223846793005 + 1442695040888963407 }

// words are those at which something turns over, each single bit, the keys and those one bit beside them, and some without a rule.
func words() []uint32 {
	l := []uint32{0, 3, 5, 6, 7, 10, 0x5a, 0xa5, 0x5aa5, 0xa55a, 0x7fffffff, 0xffff0000, 0x5a5a5a5a, 0xa5a5a5a5, 0x5a5a0000, 0xa5a50000, 0xa5a55a5a, 0x5a5aa5a5, 0xffff5a5a, 0xffffa5a5, 0xdeadbeef, all - 2, all - 1, all}
	l = append(l, first, second)
	for bit := range 32 {
		l = append(l, 1<<bit, first^1<<bit, second^1<<bit)
	}
	n := uint64(8)
	for range 8 {
		n = next(n)
		l = append(l, uint32(n>>32))
	}
	return l
}

// great are numbers of ticks, up to the greatest.
func great() []uint64 {
	l := []uint64{0, 1, 2, 9, 10, 11, all - 1, all, 1 << 32, 1<<32 + 1, 1<<33 - 1, 1 << 40, 1<<63 - 1, 1 << 63, never - 1, never}
	n := uint64(88)
	for range 6 {
		n = next(n)
		l = append(l, n, n>>30, n>>40)
	}
	return l
}

// offsets are the registers', those beside them, and those far away.
func offsets() []uint32 {
	var l []uint32
	for off := range uint32(64) {
		l = append(l, off)
	}
	return append(l, 0x100, 0x104, 0x108, 0x10c, 0x110, 1<<16, 1<<16+8, 1<<16+16, 1<<30, 1<<30+12, 1<<31, 1<<31+4, 1<<31+9, 1<<31+16, all-15, all-11, all-7, all-4, all-3, all-2, all-1, all)
}

// plain is a watchdog as the document's words tell it, tick by tick.
type plain struct {
	enable, lock, armed bool
	closed, total       uint32
	since               uint64
	fault               int
}

func (p *plain) tick() {
	if p.fault != 0 || !p.enable {
		return
	}
	p.since++
	if p.since == uint64(p.total) {
		p.fault = timeout
	}
}

// ticks tells how many there were, up to the one at which it has a fault.
func (p *plain) ticks(n uint64) uint64 {
	for i := range n {
		if p.fault != 0 {
			return i
		}
		p.tick()
	}
	return n
}

// left: of a copy, how many ticks there are to Timeout.
func (p *plain) left() uint64 {
	if !p.enable || p.fault != 0 {
		return never
	}
	c := *p
	n := uint64(0)
	for c.fault != timeout {
		c.tick()
		n++
	}
	return n
}

func number(is bool) uint32 {
	if is {
		return 1
	}
	return 0
}

func (p *plain) registers() [5]uint32 {
	return [5]uint32{number(p.enable) + 2*number(p.lock), p.closed, p.total, 0, uint32(p.since)}
}

func (p *plain) order(v uint32) {
	if p.lock {
		return
	}
	if !p.enable && v%2 == 1 && p.closed < p.total {
		p.enable, p.since, p.armed = true, 0, false
	}
	if p.enable && v%2 == 0 {
		p.enable, p.since, p.armed = false, 0, false
	}
	p.lock = v/2%2 == 1
}

func (p *plain) key(v uint32) {
	if !p.enable {
		return
	}
	shut := p.since < uint64(p.closed)
	if v == first {
		p.armed = true
		return
	}
	if v == second && p.armed {
		if shut {
			p.fault = early
			return
		}
		p.since, p.armed = 0, false
		return
	}
	if shut {
		p.fault = wrong
		return
	}
	p.armed = false
}

func (p *plain) store(off, v uint32) api.Errno {
	switch {
	case off%4 != 0:
		return api.ErrAlign
	case off > since:
		return api.ErrBus
	case off == since:
		return api.ErrRead
	case p.fault != 0:
		return api.OK
	}
	switch off {
	case control:
		p.order(v)
	case closed:
		if !p.lock && !p.enable {
			p.closed = v
		}
	case total:
		if !p.lock && !p.enable {
			p.total = v
		}
	case key:
		p.key(v)
	}
	return api.OK
}

func registers(t *testing.T, w *wdog.Wdog) [5]uint32 {
	t.Helper()
	var l [5]uint32
	for i := range l {
		v, e := w.Load(uint32(4 * i))
		if e != api.OK {
			t.Fatal(i, e)
		}
		l[i] = v
	}
	return l
}

// told is all that a watchdog tells.
type told struct {
	registers              [5]uint32
	enabled, locked, armed bool
	since, left            uint64
	fault                  int
}

func tell(t *testing.T, w *wdog.Wdog) told {
	t.Helper()
	return told{registers(t, w), w.Enabled(), w.Locked(), w.Armed(), w.Since(), w.Left(), w.Fault()}
}

// check: a watchdog tells what a plain one does, whatever it is asked.
func check(t *testing.T, w *wdog.Wdog, p *plain) {
	t.Helper()
	want := told{p.registers(), p.enable, p.lock, p.armed, p.since, p.left(), p.fault}
	if got := tell(t, w); got != want {
		t.Fatal(got, want)
	}
}

// same: two watchdogs tell the same.
func same(t *testing.T, a, b *wdog.Wdog) {
	t.Helper()
	if x, y := tell(t, a), tell(t, b); x != y {
		t.Fatal(x, y)
	}
}

func store(t *testing.T, w *wdog.Wdog, off, v uint32) {
	t.Helper()
	if e := w.Store(off, v); e != api.OK {
		t.Fatal(off, v, e)
	}
}

// tick: of so many ticks there were so many.
func tick(t *testing.T, w *wdog.Wdog, n, want uint64) {
	t.Helper()
	if got := w.Tick(n); got != want {
		t.Fatal(n, got, want)
	}
}

// made is a watchdog of these words.
func made(t *testing.T, from, to, order uint32) *wdog.Wdog {
	t.Helper()
	w := wdog.New()
	store(t, w, closed, from)
	store(t, w, total, to)
	store(t, w, control, order)
	return w
}

// feed stores both keys.
func feed(t *testing.T, w *wdog.Wdog) {
	t.Helper()
	store(t, w, key, first)
	store(t, w, key, second)
}

// faulty is a watchdog of 3 and 10 with this fault, which is armed just at Early.
func faulty(t *testing.T, fault int, order uint32) *wdog.Wdog {
	t.Helper()
	w := made(t, 3, 10, order)
	switch fault {
	case timeout:
		tick(t, w, 10, 10)
	case early:
		tick(t, w, 2, 2)
		feed(t, w)
	case wrong:
		tick(t, w, 1, 1)
		store(t, w, key, 7)
	}
	if w.Fault() != fault {
		t.Fatal(w.Fault(), fault)
	}
	return w
}

// P8.1: New.
func TestNew(t *testing.T) {
	w := wdog.New()
	check(t, w, &plain{})
	if tell(t, w) != (told{left: never}) {
		t.Error(tell(t, w))
	}
	store(t, w, closed, 7)
	store(t, w, total, 9)
	store(t, w, control, all)
	if tell(t, wdog.New()) != (told{left: never}) {
		t.Error("shared")
	}
}

func TestConstants(t *testing.T) {
	if wdog.Timeout != timeout || wdog.Early != early || wdog.Wrong != wrong {
		t.Error(wdog.Timeout, wdog.Early, wdog.Wrong)
	}
	if wdog.First != first || wdog.Second != second || wdog.Size != 0x14 {
		t.Error(wdog.First, wdog.Second, wdog.Size)
	}
}

// P8.1: Tick, by ones, of small windows and all controls.
func TestTickByTick(t *testing.T) {
	for from := range uint32(5) {
		for to := range uint32(7) {
			for order := range uint32(4) {
				w, p := made(t, from, to, order), &plain{}
				p.store(closed, from)
				p.store(total, to)
				p.store(control, order)
				for range 9 {
					check(t, w, p)
					tick(t, w, 0, 0)
					check(t, w, p)
					tick(t, w, 1, p.ticks(1))
				}
				check(t, w, p)
			}
		}
	}
}

// P8.1: Tick, of many at once, tells how many there were up to the fault.
func TestTicksAtOnce(t *testing.T) {
	for _, to := range []uint32{1, 2, 5, 9} {
		for from := range uint64(12) {
			for n := range uint64(14) {
				w, p := made(t, 0, to, enable), &plain{}
				p.store(total, to)
				p.store(control, enable)
				tick(t, w, from, p.ticks(from))
				tick(t, w, n, p.ticks(n))
				check(t, w, p)
			}
		}
	}
}

// P8.1: a great number of ticks, and a great Total.
func TestGreatTicks(t *testing.T) {
	for _, to := range []uint32{1, 2, 10, 1000003, 1 << 31, all - 1, all} {
		for _, from := range []uint32{0, to / 2, to - 1} {
			for _, n := range great() {
				w := made(t, from, to, enable)
				many := min(n, uint64(to))
				tick(t, w, n, many)
				want := told{[5]uint32{enable, from, to, 0, uint32(many)}, true, false, false, many, uint64(to) - many, 0}
				if many == uint64(to) {
					want.fault, want.left = timeout, never
				}
				if got := tell(t, w); got != want {
					t.Fatal(n, got, want)
				}
				tick(t, w, n, min(n, uint64(to)-many))
			}
		}
	}
}

// P8.3: ticks in two calls are as in one.
func TestTicksTogether(t *testing.T) {
	for _, to := range []uint32{1, 10, 1000003, 1 << 31, all} {
		for _, order := range []uint32{0, enable, enable | lock} {
			for _, a := range great() {
				for _, b := range great() {
					if b > never-a {
						continue
					}
					one, two := made(t, 0, to, order), made(t, 0, to, order)
					many := two.Tick(a)
					many += two.Tick(b)
					tick(t, one, a+b, many)
					same(t, one, two)
				}
			}
		}
	}
}

// P8.1: one that isn't enabled lets all ticks go by, and nothing changes.
func TestTickOfNone(t *testing.T) {
	stopped := made(t, 3, 10, enable)
	tick(t, stopped, 5, 5)
	store(t, stopped, control, 0)
	for i, w := range []*wdog.Wdog{wdog.New(), made(t, 0, 1, 0), made(t, 0, 1, lock), made(t, 0, 0, enable), made(t, 5, 5, enable|lock), stopped} {
		ahead := tell(t, w)
		if ahead.left != never || ahead.enabled || ahead.since != 0 {
			t.Error(i, ahead)
		}
		for _, n := range great() {
			tick(t, w, n, n)
		}
		if tell(t, w) != ahead {
			t.Error(i, tell(t, w), ahead)
		}
	}
}

// P8.1, P8.3: Left; behind so many ticks the fault is Timeout, ahead of that none comes.
func TestLeft(t *testing.T) {
	for _, to := range []uint32{1, 2, 3, 100, 1 << 31, all} {
		for _, from := range []uint64{0, 1, 2, 77, 1<<31 - 1, 1 << 31, uint64(to) - 1} {
			if from >= uint64(to) {
				continue
			}
			w := made(t, 0, to, enable|lock)
			tick(t, w, from, from)
			if w.Left() != uint64(to)-from {
				t.Fatal(to, from, w.Left())
			}
			tick(t, w, w.Left()-1, w.Left()-1)
			if w.Fault() != 0 || w.Left() != 1 {
				t.Fatal(to, from, w.Fault(), w.Left())
			}
			tick(t, w, 1, 1)
			if w.Fault() != timeout || w.Left() != never || w.Since() != uint64(to) {
				t.Fatal(to, from, w.Fault(), w.Left(), w.Since())
			}
		}
	}
}

// While it has a fault, ticks and stores do nothing, but errors are told as before.
func TestFaultStays(t *testing.T) {
	for _, fault := range []int{timeout, early, wrong} {
		for _, order := range []uint32{enable, enable | lock} {
			w := faulty(t, fault, order)
			ahead := tell(t, w)
			if ahead.left != never || !ahead.enabled || ahead.armed != (fault == early) || ahead.locked != (order == enable|lock) {
				t.Error(fault, ahead)
			}
			for _, n := range great() {
				tick(t, w, n, 0)
			}
			for _, off := range []uint32{control, closed, total, key} {
				for _, v := range words() {
					store(t, w, off, v)
				}
			}
			for off, want := range map[uint32]api.Errno{since: api.ErrRead, 20: api.ErrBus, 1: api.ErrAlign} {
				if e := w.Store(off, 0); e != want {
					t.Error(fault, off, e)
				}
			}
			if tell(t, w) != ahead {
				t.Error(fault, tell(t, w), ahead)
			}
		}
	}
}

// A fault leaves what it came upon: Since, Armed, the words.
func TestWhatAFaultLeaves(t *testing.T) {
	for fault, want := range map[int]told{
		timeout: {[5]uint32{1, 3, 10, 0, 10}, true, false, false, 10, never, timeout},
		early:   {[5]uint32{1, 3, 10, 0, 2}, true, false, true, 2, never, early},
		wrong:   {[5]uint32{1, 3, 10, 0, 1}, true, false, false, 1, never, wrong},
	} {
		if got := tell(t, faulty(t, fault, enable)); got != want {
			t.Error(got, want)
		}
	}
	w := made(t, 3, 10, enable)
	store(t, w, key, first)
	if store(t, w, key, 0); w.Fault() != wrong || !w.Armed() {
		t.Error(w.Fault(), w.Armed())
	}
	w = made(t, 3, 10, enable)
	store(t, w, key, first)
	if tick(t, w, 99, 10); w.Fault() != timeout || !w.Armed() {
		t.Error(w.Fault(), w.Armed())
	}
}

// Control: it is enabled just of a window, and the lock is bit 1 all the same.
func TestStoreControl(t *testing.T) {
	for _, x := range [][2]uint32{{0, 0}, {0, 1}, {1, 1}, {2, 1}, {3, 10}, {9, 10}, {10, 10}, {11, 10}, {all - 1, all}, {all, all}, {all, 0}, {1 << 31, 1}, {1, 1 << 31}} {
		for _, v := range words() {
			w := made(t, x[0], x[1], v)
			on := v%2 == 1 && x[0] < x[1]
			want := told{registers: [5]uint32{number(on) + v&2, x[0], x[1], 0, 0}, enabled: on, locked: v&2 != 0, left: never}
			if on {
				want.left = uint64(x[1])
			}
			if got := tell(t, w); got != want {
				t.Fatal(x, v, got, want)
			}
		}
	}
}

// Control, while it is enabled: bit 0 keeps all going, without it all stops.
func TestStoreControlOnTheWay(t *testing.T) {
	for _, v := range words() {
		w := made(t, 3, 10, enable)
		tick(t, w, 7, 7)
		store(t, w, key, first)
		want := tell(t, w)
		if want.left != 3 || !want.armed || want.since != 7 {
			t.Fatal(want)
		}
		want.locked = v&2 != 0
		want.registers[0] = v & 3
		if v%2 == 0 {
			want.enabled, want.armed, want.since, want.left, want.registers[4] = false, false, 0, never, 0
		}
		store(t, w, control, v)
		if got := tell(t, w); got != want {
			t.Fatal(v, got, want)
		}
	}
	w := made(t, 3, 10, enable)
	tick(t, w, 7, 7)
	store(t, w, control, 0)
	store(t, w, control, enable)
	if w.Since() != 0 || w.Left() != 10 {
		t.Error(w.Since(), w.Left())
	}
}

// What is locked stays, whether it is enabled or not, till a reset.
func TestLock(t *testing.T) {
	for _, order := range []uint32{lock, enable | lock} {
		w := made(t, 3, 10, order)
		ahead := tell(t, w)
		for _, v := range words() {
			for _, off := range []uint32{control, closed, total} {
				store(t, w, off, v)
			}
			if tell(t, w) != ahead {
				t.Fatal(order, v, tell(t, w), ahead)
			}
		}
		w.Reset()
		store(t, w, closed, 4)
		store(t, w, total, 5)
		store(t, w, control, enable)
		if w.Locked() || w.Left() != 5 {
			t.Error(order, w.Locked(), w.Left())
		}
	}
	w := made(t, 3, 10, enable|lock)
	tick(t, w, 4, 4)
	if feed(t, w); w.Since() != 0 || w.Fault() != 0 {
		t.Error("a locked one isn't fed", w.Since(), w.Fault())
	}
}

// Closed and Total are written, all their bits, just while it is neither locked nor enabled.
func TestStoreWindow(t *testing.T) {
	for _, v := range words() {
		for order := range uint32(4) {
			w := made(t, 3, 10, order)
			want := registers(t, w)
			if order == 0 {
				want[1] = v
			}
			if store(t, w, closed, v); registers(t, w) != want {
				t.Fatal(order, v, registers(t, w), want)
			}
			if order == 0 {
				want[2] = ^v
			}
			if store(t, w, total, ^v); registers(t, w) != want {
				t.Fatal(order, v, registers(t, w), want)
			}
		}
	}
	w := made(t, 3, 10, enable)
	store(t, w, control, 0)
	store(t, w, closed, 1)
	store(t, w, total, 2)
	if registers(t, w) != [5]uint32{0, 1, 2, 0, 0} {
		t.Error(registers(t, w))
	}
}

// The key, of each word, in the closed window and the open one, armed or not.
func TestKey(t *testing.T) {
	for _, at := range []uint64{0, 1, 2, 3, 4, 9} {
		for _, armed := range []bool{false, true} {
			for _, v := range words() {
				w := made(t, 3, 10, enable)
				tick(t, w, at, at)
				if armed {
					store(t, w, key, first)
				}
				want := tell(t, w)
				switch {
				case v == first:
					want.armed = true
				case v == second && armed && at < 3:
					want.fault, want.left = early, never
				case at < 3:
					want.fault, want.left = wrong, never
				default:
					want.armed = false
					if v == second && armed {
						want.since, want.registers[4], want.left = 0, 0, 10
					}
				}
				store(t, w, key, v)
				if got := tell(t, w); got != want {
					t.Fatal(at, armed, v, got, want)
				}
			}
		}
	}
}

// While it isn't enabled, keys do nothing.
func TestKeyOfNone(t *testing.T) {
	for order := range uint32(4) {
		w := made(t, 5, 5, order)
		ahead := tell(t, w)
		for _, v := range words() {
			store(t, w, key, v)
			if feed(t, w); tell(t, w) != ahead {
				t.Fatal(order, v, tell(t, w), ahead)
			}
		}
	}
}

// The first key may come in the closed window, and once more; the second one alone must be late enough.
func TestFeeds(t *testing.T) {
	w := made(t, 3, 10, enable)
	store(t, w, key, first)
	tick(t, w, 3, 3)
	store(t, w, key, first)
	if store(t, w, key, second); w.Fault() != 0 || w.Since() != 0 || w.Armed() || w.Left() != 10 {
		t.Error(tell(t, w))
	}
	tick(t, w, 9, 9)
	if feed(t, w); w.Fault() != 0 || w.Since() != 0 {
		t.Error(tell(t, w))
	}
	if store(t, w, key, second); w.Fault() != wrong {
		t.Error("a second key without a first one", tell(t, w))
	}
	w = made(t, 0, 2, enable)
	for range 5 {
		feed(t, w)
		tick(t, w, 1, 1)
		store(t, w, key, 9)
		store(t, w, key, second)
		if w.Fault() != 0 || w.Since() != 1 || w.Armed() {
			t.Fatal(tell(t, w))
		}
	}
}

// A window of great words is held by all their bits.
func TestGreatWindow(t *testing.T) {
	w := made(t, all-1, all, enable)
	tick(t, w, all-1, all-1)
	if feed(t, w); w.Fault() != 0 || w.Left() != all {
		t.Error(tell(t, w))
	}
	tick(t, w, all-2, all-2)
	if feed(t, w); w.Fault() != early {
		t.Error(tell(t, w))
	}
}

// T4: of Closed, Total and a time of a feed or a wrong key, the fault is what the window tells.
func TestFaultsByTheWindow(t *testing.T) {
	for to := uint32(1); to < 8; to++ {
		for from := range to {
			for at := range uint64(9) {
				for _, keys := range [][]uint32{{first, second}, {second}, {first, 7}} {
					w := made(t, from, to, enable)
					tick(t, w, at, min(at, uint64(to)))
					for _, v := range keys {
						store(t, w, key, v)
					}
					fed := len(keys) == 2 && keys[1] == second
					want := 0
					switch {
					case at >= uint64(to):
						want = timeout
					case at < uint64(from) && fed:
						want = early
					case at < uint64(from):
						want = wrong
					}
					if w.Fault() != want {
						t.Fatal(from, to, at, keys, w.Fault(), want)
					}
				}
			}
		}
	}
}

// P8.2: errors of Load and Store, in their order; what is refused changes nothing.
func TestErrors(t *testing.T) {
	w := made(t, 0x11, 0x99, enable)
	tick(t, w, 0x44, 0x44)
	store(t, w, key, first)
	ahead := tell(t, w)
	if ahead.registers != [5]uint32{1, 0x11, 0x99, 0, 0x44} {
		t.Fatal(ahead)
	}
	for _, off := range offsets() {
		want := api.ErrBus
		switch {
		case off%4 != 0:
			want = api.ErrAlign
		case off < 20:
			want = api.OK
		}
		v, e := w.Load(off)
		if e != want || e != api.OK && v != 0 || e == api.OK && v != ahead.registers[off/4] {
			t.Errorf("load %x: %d %d", off, v, e)
		}
		if off == since {
			want = api.ErrRead
		}
		if want == api.OK {
			continue
		}
		for _, v := range words() {
			if e := w.Store(off, v); e != want {
				t.Errorf("store %x: %d, not %d", off, e, want)
			}
		}
		if tell(t, w) != ahead {
			t.Fatal(off, tell(t, w), ahead)
		}
	}
}

// P8.1: Reset: all is as at first, from any state.
func TestReset(t *testing.T) {
	for _, fault := range []int{0, timeout, early, wrong} {
		for _, order := range []uint32{enable, enable | lock} {
			w := faulty(t, fault, order)
			w.Reset()
			check(t, w, &plain{})
			tick(t, w, never, never)
			check(t, w, &plain{})
			store(t, w, total, 6)
			store(t, w, control, enable)
			if w.Left() != 6 || w.Armed() {
				t.Error(fault, order, w.Left(), w.Armed())
			}
			w.Reset()
			w.Reset()
			check(t, w, &plain{})
		}
	}
}

// P8.1: Copy is the same, and what is done to one isn't told of the other.
func TestCopy(t *testing.T) {
	for _, fault := range []int{0, timeout, early, wrong} {
		for _, order := range []uint32{enable, enable | lock} {
			w := faulty(t, fault, order)
			store(t, w, key, first)
			ahead, c := tell(t, w), w.Copy()
			if c == w {
				t.Fatal("the very")
			}
			same(t, w, c)
			w.Tick(1)
			feed(t, w)
			w.Reset()
			store(t, w, closed, 77)
			if tell(t, c) != ahead {
				t.Error(fault, tell(t, c), ahead)
			}
			before, d := tell(t, w), c.Copy().Copy()
			d.Tick(5)
			d.Reset()
			c.Tick(2)
			if fault != 0 && tell(t, c) != ahead || fault == 0 && c.Since() != 2 || tell(t, w) != before {
				t.Error(fault, tell(t, c), tell(t, w))
			}
		}
	}
}

// The chapter's example.
func TestExample(t *testing.T) {
	w := made(t, 3, 10, enable)
	tick(t, w, 2, 2)
	at2 := w.Copy()
	if feed(t, at2); at2.Fault() != wdog.Early {
		t.Error(at2.Fault())
	}
	tick(t, w, 1, 1)
	if feed(t, w); w.Fault() != 0 || w.Since() != 0 {
		t.Error(w.Fault(), w.Since())
	}
	tick(t, w, 9, 9)
	if w.Fault() != 0 {
		t.Error(w.Fault())
	}
	tick(t, w, 9, 1)
	if w.Fault() != wdog.Timeout {
		t.Error(w.Fault())
	}
}

// P8.3: a nil watchdog, whose answer is ahead of that of a misaligned offset.
func TestNilWdog(t *testing.T) {
	var w *wdog.Wdog
	for _, n := range great() {
		tick(t, w, n, n)
	}
	w.Reset()
	if w.Fault() != 0 || w.Enabled() || w.Locked() || w.Armed() || w.Since() != 0 || w.Left() != never || w.Copy() != nil {
		t.Error(w.Fault(), w.Enabled(), w.Locked(), w.Armed(), w.Since(), w.Left(), w.Copy())
	}
	for _, off := range offsets() {
		if v, e := w.Load(off); v != 0 || e != api.ErrBus {
			t.Error(off, v, e)
		}
		if e := w.Store(off, first); e != api.ErrBus {
			t.Error(off, e)
		}
	}
}

// A watchdog is a device (3), and its room holds all its registers.
func TestOnABus(t *testing.T) {
	w, b := wdog.New(), bus.New()
	const base = 0x10020000
	if e := b.Attach(bus.Region{Base: base, Size: wdog.Size}, w); e != api.OK {
		t.Fatal(e)
	}
	if b.Store(base+total, 2) != api.OK || b.Store(base, enable) != api.OK || b.Store(base+since, 0) != api.ErrRead || b.Store(base+20, 0) != api.ErrBus {
		t.Error("store")
	}
	tick(t, w, 1, 1)
	if v, e := b.Load(base + since); v != 1 || e != api.OK {
		t.Error(v, e)
	}
}

// twin is a watchdog, beside a plain one.
type twin struct {
	w *wdog.Wdog
	p plain
}

func (x *twin) tick(t *testing.T, n uint64) {
	t.Helper()
	tick(t, x.w, n, x.p.ticks(n))
}

func (x *twin) store(t *testing.T, off, v uint32) {
	t.Helper()
	if got, want := x.w.Store(off, v), x.p.store(off, v); got != want {
		t.Fatal(off, v, got, want)
	}
}

// step does the same to both of a twin.
func (x *twin) step(t *testing.T, kind, a, b uint32) {
	t.Helper()
	switch kind {
	case 0, 1, 2:
		x.tick(t, uint64(a%4))
	case 3:
		x.store(t, closed, a%4)
	case 4:
		x.store(t, total, a%9)
	case 5:
		// Seldom locked, else little would come behind it.
		x.store(t, control, b&^3|number(a%4 != 0)+2*number(a%32 == 1))
	case 6:
		x.store(t, key, first)
	case 7:
		x.store(t, key, second)
	case 8:
		x.store(t, key, words()[b%40])
	case 9:
		x.store(t, a%28, b%12)
	case 10:
		if x.p.fault != 0 || a%16 == 0 {
			x.w.Reset()
			x.p = plain{}
		}
	}
	check(t, x.w, &x.p)
}

// P8.1 to P8.3, P1, P2: watchdogs tell what plain ones do, call by call, also their copies, and the same again.
func TestWatchdogsArePlainOnes(t *testing.T) {
	n := uint64(80)
	draw := func() uint32 {
		n = next(n)
		return uint32(n >> 32)
	}
	faults := map[int]int{}
	for range 60 {
		x, again := &twin{w: wdog.New()}, &twin{w: wdog.New()}
		for range 500 {
			kind, a, b := draw()%12, draw(), draw()
			if kind == 11 {
				left := &twin{x.w, x.p}
				x.w = x.w.Copy()
				left.step(t, a%11, b, a)
				check(t, x.w, &x.p)
				continue
			}
			x.step(t, kind, a, b)
			again.step(t, kind, a, b)
			same(t, x.w, again.w)
			faults[x.p.fault]++
		}
	}
	if faults[0] == 0 || faults[timeout] == 0 || faults[early] == 0 || faults[wrong] == 0 {
		t.Error("a fault never came", faults)
	}
}
