package board_test

import (
	"slices"
	"testing"

	"minuterie/api"
	"minuterie/bank"
	"minuterie/board"
	"minuterie/clint"
	"minuterie/rstc"
	"minuterie/rtc"
	"minuterie/wdog"
)

const (
	all   = 1<<32 - 1
	never = uint64(1<<64 - 1)
)

// The bases, as the chapter tells them.
const (
	clintAt = 0x2000000
	bankAt  = 0x10010000
	wdogAt  = 0x10020000
	rstcAt  = 0x10030000
	rtcAt   = 0x10040000
	linesAt = 0x10050000
)

// Registers' addresses.
const (
	softs      = clintAt
	compares   = clintAt + 0x4000
	times      = clintAt + 0xbff8
	dogControl = wdogAt
	dogClosed  = wdogAt + 4
	dogTotal   = wdogAt + 8
	dogKey     = wdogAt + 0xc
	dogSince   = wdogAt + 0x10
	cause      = rstcAt
	many       = rstcAt + 4
	resetKey   = rstcAt + 8
	last       = rstcAt + 0xc
	setLo      = rtcAt + 8
	setHi      = rtcAt + 0xc
	alarmLo    = rtcAt + 0x10
	alarmHi    = rtcAt + 0x14
	rtcControl = rtcAt + 0x18
	rtcStatus  = rtcAt + 0x1c
	divider    = rtcAt + 0x20
	mask       = linesAt + 4
	both       = linesAt + 8
)

// The causes.
const (
	timeout = 2
	early   = 4
	wrong   = 8
	soft    = 16
)

// Control's bits.
const (
	enable = 1
	lock   = 2
	reload = 2
	irq    = 4
)

const (
	first  = 0x5a5a
	second = 0xa5a5
	key    = 0xb007
)

func next(n uint64) uint64 { return n*6364136223846793005 + 1442695040888963407 }

func timer(i int) uint32 { return bankAt + 0x20*uint32(i) }

func compare(hart int) uint32 { return compares + 8*uint32(hart) }

// of is a board of a config.
func of(t *testing.T, harts, counts int, div uint32) *board.Board {
	t.Helper()
	c := board.Config{Harts: harts, Counts: counts, Div: div}
	b, e := board.New(c)
	if e != api.OK || b == nil || b.Config() != c {
		t.Fatal(c, b, e)
	}
	return b
}

func load(t *testing.T, b *board.Board, addr uint32) uint32 {
	t.Helper()
	v, e := b.Load(addr)
	if e != api.OK {
		t.Fatalf("load %x: %d", addr, e)
	}
	return v
}

// pair is an address, and what is stored there.
type pair struct{ addr, v uint32 }

func store(t *testing.T, b *board.Board, l ...pair) {
	t.Helper()
	for _, p := range l {
		if e := b.Store(p.addr, p.v); e != api.OK {
			t.Fatalf("store %x: %d", p.addr, e)
		}
	}
}

// set sets a hart's comparator.
func set(t *testing.T, b *board.Board, hart int, at uint64) {
	t.Helper()
	store(t, b, pair{compare(hart), all}, pair{compare(hart) + 4, uint32(at >> 32)}, pair{compare(hart), uint32(at)})
}

// start starts a timer, which doesn't reload.
func start(t *testing.T, b *board.Board, i int, n uint32) {
	t.Helper()
	store(t, b, pair{timer(i), n}, pair{timer(i) + 8, enable | irq})
}

// watch enables the watchdog.
func watch(t *testing.T, b *board.Board, closed, total, order uint32) {
	t.Helper()
	store(t, b, pair{dogClosed, closed}, pair{dogTotal, total}, pair{dogControl, order})
}

// addresses are those of all registers of a config's board, rising.
func addresses(c board.Config) []uint32 {
	var l []uint32
	some := func(base uint32, n int) {
		for i := range n {
			l = append(l, base+4*uint32(i))
		}
	}
	some(softs, c.Harts)
	some(compares, 2*c.Harts)
	some(times, 2)
	for i := range c.Counts {
		some(timer(i), 4)
	}
	some(wdogAt, 5)
	some(rstcAt, 4)
	some(rtcAt, 9)
	some(linesAt, 3)
	return l
}

// image is what all registers have.
func image(t *testing.T, b *board.Board) []uint32 {
	t.Helper()
	var l []uint32
	for _, addr := range addresses(b.Config()) {
		l = append(l, load(t, b, addr))
	}
	return l
}

// wires are a board's lines, as its devices tell them.
func wires(t *testing.T, b *board.Board) uint32 {
	t.Helper()
	var high uint32
	for hart := range b.Config().Harts {
		if b.Line(hart) {
			high |= 1 << hart
		}
		high |= load(t, b, softs+4*uint32(hart)) << (24 + hart)
	}
	high |= b.Bank().Lines() << 8
	if b.Rtc().Line() {
		high |= 1 << 16
	}
	return high
}

// wired looks whether the controller has just the lines that the devices tell.
func wired(t *testing.T, b *board.Board) {
	t.Helper()
	want := wires(t, b)
	if b.High() != want || load(t, b, linesAt) != want || load(t, b, both) != want&load(t, b, mask) || b.Out() != (load(t, b, both) != 0) {
		t.Fatalf("%x %x %x %x %v", want, b.High(), load(t, b, linesAt), load(t, b, both), b.Out())
	}
}

// same looks whether two boards tell the same.
func same(t *testing.T, a, b *board.Board) {
	t.Helper()
	if a.Time() != b.Time() || a.Config() != b.Config() || a.High() != b.High() || a.Out() != b.Out() || !slices.Equal(a.Resets(), b.Resets()) || !slices.Equal(image(t, a), image(t, b)) {
		t.Fatal(a.Time(), b.Time(), a.Resets(), b.Resets(), image(t, a), image(t, b))
	}
	if *a.Dog() != *b.Dog() || *a.Rtc() != *b.Rtc() {
		t.Fatal(a.Dog(), b.Dog(), a.Rtc(), b.Rtc())
	}
	for i := range a.Config().Counts {
		if *a.Bank().Timer(i) != *b.Bank().Timer(i) {
			t.Fatal(i, a.Bank().Timer(i), b.Bank().Timer(i))
		}
	}
}

// fresh looks whether all registers are as behind a reset; but the time, the seconds and what the reset controller has.
func fresh(t *testing.T, b *board.Board) {
	t.Helper()
	apart := []uint32{times, times + 4, rtcAt, rtcAt + 4, cause, many, last, linesAt}
	for _, addr := range addresses(b.Config()) {
		want := uint32(0)
		switch {
		case slices.Contains(apart, addr):
			continue
		case addr >= compares && addr < times:
			want = all
		case addr == divider:
			want = b.Config().Div
		}
		if v := load(t, b, addr); v != want {
			t.Errorf("%x: %x, not %x", addr, v, want)
		}
	}
	if b.Dog().Fault() != 0 || b.Dog().Armed() || b.Dog().Locked() || b.Dog().Since() != 0 || b.Bank().Runs() != 0 || b.Rtc().Met() || b.Out() {
		t.Error(b.Dog(), b.Bank().Runs(), b.Rtc().Met(), b.Out())
	}
	wired(t, b)
}

// P11.1: New, of all numbers of harts and timers, and of some dividers.
func TestNew(t *testing.T) {
	numbers := []int{-1 << 63, -8, -1, 0, 1, 2, 3, 4, 5, 6, 7, 8, 9, 10, 16, 1 << 32, 1<<32 + 1, 1<<63 - 1}
	good := func(n int) bool { return n >= 1 && n <= 8 }
	for _, harts := range numbers {
		for _, counts := range numbers {
			for _, div := range []uint32{0, 1, 10, 1 << 31, all} {
				c := board.Config{Harts: harts, Counts: counts, Div: div}
				b, e := board.New(c)
				if !good(harts) || !good(counts) || div == 0 {
					if b != nil || e != api.ErrRange {
						t.Error(c, b, e)
					}
					continue
				}
				if b == nil || e != api.OK || b.Config() != c || b.Time() != 0 || len(b.Resets()) != 0 || b.Bank().Len() != counts || b.High() != 0 {
					t.Fatal(c, b, e)
				}
				fresh(t, b)
				if load(t, b, cause) != 1 || load(t, b, many) != 0 || load(t, b, last) != 1 || load(t, b, times) != 0 || load(t, b, rtcAt) != 0 {
					t.Error(c, image(t, b))
				}
			}
		}
	}
}

func TestConstants(t *testing.T) {
	if board.ClintAt != clintAt || board.BankAt != bankAt || board.WdogAt != wdogAt || board.RstcAt != rstcAt || board.RtcAt != rtcAt || board.LinesAt != linesAt || board.LinesSize != 0xc {
		t.Error("bases")
	}
}

// P11.1: Load and Store answer at the registers' addresses and at no others, of each config.
func TestAddresses(t *testing.T) {
	sizes := map[uint32]uint32{clintAt: clint.Size, bankAt: bank.Size, wdogAt: wdog.Size, rstcAt: rstc.Size, rtcAt: rtc.Size, linesAt: 0xc}
	for _, c := range []board.Config{{Harts: 1, Counts: 1, Div: 1}, {Harts: 3, Counts: 5, Div: 10}, {Harts: 8, Counts: 8, Div: all}} {
		b := of(t, c.Harts, c.Counts, c.Div)
		there := map[uint32]bool{}
		for _, addr := range addresses(c) {
			there[addr] = true
		}
		want := func(addr uint32) api.Errno {
			switch {
			case addr%4 != 0:
				return api.ErrAlign
			case !there[addr]:
				return api.ErrBus
			}
			return api.OK
		}
		look := func(addr uint32) {
			if v, e := b.Load(addr); e != want(addr) || e != api.OK && v != 0 {
				t.Fatalf("%x: %x, %d", addr, v, e)
			}
			if e := b.Store(addr, 0); e != want(addr) && (e != api.ErrRead || want(addr) != api.OK) {
				t.Fatalf("%x: %d", addr, e)
			}
		}
		for base, size := range sizes {
			for addr := base - 64; addr < base+size+64; addr++ {
				look(addr)
			}
		}
		for _, addr := range []uint32{0, 1, 2, 3, 4, 1 << 16, 1 << 24, 1 << 28, 1 << 31, bankAt | 1<<31, linesAt + 0x10000, linesAt + 0x10001, all - 7, all - 3, all - 2, all - 1, all} {
			look(addr)
		}
	}
}

// P11.1: registers that are read-only; what is refused changes nothing.
func TestRefused(t *testing.T) {
	b := of(t, 2, 2, 3)
	set(t, b, 1, 5)
	start(t, b, 1, 4)
	store(t, b, pair{alarmLo, 2}, pair{rtcControl, enable}, pair{mask, all}, pair{softs, 1})
	watch(t, b, 2, 100, enable)
	b.Tick(7)
	kept := b.Copy()
	for _, addr := range []uint32{times, times + 4, timer(0) + 4, timer(1) + 4, dogSince, many, last, rtcAt, rtcAt + 4, divider, linesAt, both} {
		for _, v := range []uint32{0, 1, key, first, all} {
			if e := b.Store(addr, v); e != api.ErrRead {
				t.Errorf("%x: %d", addr, e)
			}
			if e := b.Store(addr+1, v); e != api.ErrAlign {
				t.Errorf("%x: %d", addr+1, e)
			}
		}
		same(t, b, kept)
	}
	for _, addr := range []uint32{0, clintAt - 4, clintAt + 8, compares + 16, clintAt + clint.Size, timer(0) + 16, timer(2), dogKey + 1, resetKey + 2, resetKey + 16, linesAt + 12, all - 3} {
		e := api.ErrBus
		if addr%4 != 0 {
			e = api.ErrAlign
		}
		for _, v := range []uint32{0, 1, key, second, all} {
			if answer := b.Store(addr, v); answer != e {
				t.Errorf("%x: %d", addr, answer)
			}
		}
		same(t, b, kept)
	}
}

// Lines: each is at its place, and no other one is high; behind a store, and behind ticks.
func TestLines(t *testing.T) {
	for i := range 8 {
		b := of(t, 8, 8, 3)
		only := func(high uint32) {
			t.Helper()
			if b.High() != high {
				t.Errorf("%d: %x, not %x", i, b.High(), high)
			}
			wired(t, b)
		}
		only(0)
		store(t, b, pair{softs + 4*uint32(i), all})
		only(1 << (24 + i))
		store(t, b, pair{softs + 4*uint32(i), all - 1})
		only(0)
		set(t, b, i, 2)
		only(0)
		b.Tick(1)
		only(0)
		b.Tick(1)
		only(1 << i)
		set(t, b, i, 3)
		only(0)
		set(t, b, i, 0)
		only(1 << i)
		set(t, b, i, never)
		only(0)
		start(t, b, i, 2)
		b.Tick(1)
		only(0)
		b.Tick(1)
		only(1 << (8 + i))
		store(t, b, pair{timer(i) + 8, 0})
		only(0)
		store(t, b, pair{timer(i) + 8, irq})
		only(1 << (8 + i))
		store(t, b, pair{timer(i) + 0xc, 1})
		only(0)
		store(t, b, pair{alarmLo, 2}, pair{rtcControl, enable})
		only(0)
		b.Tick(1)
		only(0)
		b.Tick(1)
		only(1 << 16)
		store(t, b, pair{rtcStatus, 1})
		only(0)
		store(t, b, pair{alarmLo, 3}, pair{alarmLo, 1})
		only(1 << 16)
	}
}

// Lines: all that there may be, together.
func TestAllLines(t *testing.T) {
	b := of(t, 8, 8, 1)
	for i := range 8 {
		set(t, b, i, 1)
		start(t, b, i, 1)
		store(t, b, pair{softs + 4*uint32(i), 1})
	}
	store(t, b, pair{alarmLo, 1}, pair{rtcControl, enable})
	if b.High() != 0xff000000 {
		t.Errorf("%x", b.High())
	}
	if b.Tick(1); b.High() != 0xff01ffff {
		t.Errorf("%x", b.High())
	}
	wired(t, b)
}

// P11.2: Out is high, if a line of the mask is.
func TestOut(t *testing.T) {
	b := of(t, 2, 1, 1)
	store(t, b, pair{softs + 4, 1})
	for line := range 32 {
		store(t, b, pair{mask, 1 << line})
		if b.Out() != (line == 25) {
			t.Error(line, b.Out())
		}
	}
	store(t, b, pair{mask, all})
	if !b.Out() {
		t.Error("all")
	}
	store(t, b, pair{softs + 4, 0})
	if b.Out() {
		t.Error("none")
	}
}

// P11.2: Time, Compare and Line are the clint's.
func TestClint(t *testing.T) {
	b := of(t, 3, 1, 1)
	for hart := range 3 {
		set(t, b, hart, 1<<40+uint64(hart))
	}
	b.Tick(1 << 40)
	for hart := -2; hart < 10; hart++ {
		want := never
		if hart >= 0 && hart < 3 {
			want = 1<<40 + uint64(hart)
		}
		if b.Compare(hart) != want || b.Line(hart) != (hart == 0) {
			t.Error(hart, b.Compare(hart), b.Line(hart))
		}
	}
	if b.Time() != 1<<40 || load(t, b, times) != 0 || load(t, b, times+4) != 1<<8 {
		t.Error(b.Time())
	}
	for _, hart := range []int{-1 << 63, 1<<63 - 1} {
		if b.Compare(hart) != never || b.Line(hart) {
			t.Error(hart)
		}
	}
}

// P11.1: Tick goes to all devices, by ones and by many.
func TestTick(t *testing.T) {
	for _, step := range []uint64{1, 2, 3, 5, 60} {
		b := of(t, 1, 2, 7)
		store(t, b, pair{timer(0), 100}, pair{timer(0) + 8, enable}, pair{timer(1), 50}, pair{timer(1) + 8, enable | 0x100})
		watch(t, b, 0, 1000, enable)
		b.Tick(0)
		for range 60 / step {
			b.Tick(step)
		}
		if b.Time() != 60 || load(t, b, timer(0)+4) != 40 || load(t, b, timer(1)+4) != 20 || b.Dog().Since() != 60 || b.Rtc().Seconds() != 8 || b.Rtc().Rest() != 4 {
			t.Error(step, b.Time(), image(t, b))
		}
	}
}

// busy is a board on which each device has something to lose by a reset.
func busy(t *testing.T) *board.Board {
	t.Helper()
	b := of(t, 3, 3, 10)
	store(t, b, pair{setLo, 7}, pair{setHi, 1}, pair{alarmLo, 7}, pair{alarmHi, 1}, pair{rtcControl, enable}, pair{mask, all})
	for i := range 3 {
		set(t, b, i, uint64(20*i))
		start(t, b, i, 10+uint32(i))
		store(t, b, pair{softs + 4*uint32(i), 1})
	}
	b.Tick(11)
	if b.High() != 0x07010301 || !b.Out() {
		t.Fatalf("%x", b.High())
	}
	return b
}

// reset looks whether a busy board's one reset is told, and has left what it is to leave.
func reset(t *testing.T, b *board.Board, at uint64, why int) {
	t.Helper()
	if l := b.Resets(); !slices.Equal(l, []board.Event{{At: at, Cause: why}}) {
		t.Error(l)
	}
	if load(t, b, cause) != uint32(1|why) || load(t, b, last) != uint32(why) || load(t, b, many) != 1 || load(t, b, resetKey) != 0 {
		t.Error(load(t, b, cause), load(t, b, last), load(t, b, many))
	}
	seconds := 1<<32 + 7 + b.Time()/10
	if b.Rtc().Seconds() != seconds || uint64(b.Rtc().Rest()) != b.Time()%10 {
		t.Error(b.Rtc().Seconds(), b.Rtc().Rest(), b.Time())
	}
	if b.High() != 0 {
		t.Errorf("%x", b.High())
	}
	fresh(t, b)
}

// P11.3: a reset by a store: at the time at which it is, all as at first, the time and the seconds going on.
func TestResetsByStores(t *testing.T) {
	b := busy(t)
	store(t, b, pair{resetKey, key})
	reset(t, b, 11, soft)
	if b.Time() != 11 {
		t.Error(b.Time())
	}
	for _, order := range []uint32{enable, enable | lock} {
		b = busy(t)
		watch(t, b, 5, 9, order)
		b.Tick(4)
		store(t, b, pair{dogKey, first}, pair{dogKey, second})
		reset(t, b, 15, early)
		b = busy(t)
		watch(t, b, 5, 9, order)
		b.Tick(4)
		store(t, b, pair{dogKey, second})
		reset(t, b, 15, wrong)
		b.Tick(1000)
		reset(t, b, 15, wrong)
	}
}

// P11.3: a reset by the watchdog's Timeout: at the end of its tick, in the midst of ticks, the rest going on behind it.
func TestResetsByTicks(t *testing.T) {
	for _, order := range []uint32{enable, enable | lock} {
		for _, total := range []uint32{1, 2, 9, 10, 1000, all} {
			for _, further := range []uint64{0, 1, 2, 9, 10, 1 << 40} {
				b := busy(t)
				watch(t, b, total-1, total, order)
				b.Tick(uint64(total) - 1)
				if len(b.Resets()) != 0 || !b.Dog().Enabled() || b.Dog().Left() != 1 {
					t.Error(total, b.Resets())
				}
				b.Tick(1 + further)
				if b.Time() != 11+uint64(total)+further {
					t.Error(total, further, b.Time())
				}
				reset(t, b, 11+uint64(total), timeout)
			}
		}
	}
}

// A reset is at the end of its tick: what comes of that tick is lost, and the time of it is not.
func TestResetAtTheTicksEnd(t *testing.T) {
	for _, n := range []uint64{5, 6, 100} {
		b := of(t, 1, 1, 5)
		store(t, b, pair{alarmLo, 1}, pair{rtcControl, enable}, pair{mask, all})
		set(t, b, 0, 5)
		start(t, b, 0, 5)
		watch(t, b, 0, 5, enable)
		b.Tick(4)
		if b.High() != 0 || len(b.Resets()) != 0 {
			t.Error(b.High(), b.Resets())
		}
		b.Tick(n - 4)
		if l := b.Resets(); b.High() != 0 || len(l) != 1 || l[0] != (board.Event{At: 5, Cause: timeout}) || b.Rtc().Seconds() != n/5 || b.Time() != n {
			t.Error(n, b.High(), l, b.Rtc().Seconds(), b.Time())
		}
		fresh(t, b)
	}
}

// What doesn't ask for a reset makes none: other words at the key, a feed and a wrong key in the open window, keys of a watchdog that isn't enabled.
func TestNoReset(t *testing.T) {
	b := of(t, 1, 1, 1)
	store(t, b, pair{dogKey, second}, pair{resetKey, 0}, pair{resetKey, key - 1}, pair{resetKey, key + 1}, pair{resetKey, 1<<16 | key}, pair{resetKey, all}, pair{cause, key}, pair{dogKey, key})
	watch(t, b, 3, 10, enable)
	b.Tick(3)
	store(t, b, pair{dogKey, second}, pair{dogKey, first}, pair{dogKey, second})
	if b.Tick(9); len(b.Resets()) != 0 || b.Dog().Left() != 1 {
		t.Error(b.Resets(), b.Dog().Left())
	}
	if b.Tick(1); len(b.Resets()) != 1 {
		t.Error(b.Resets())
	}
}

// P11.2: Resets: all, in order, also many at one time; the causes are gathered, till they are cleared.
func TestResets(t *testing.T) {
	b := of(t, 1, 1, 1)
	want := []board.Event{}
	had := uint32(1)
	turn := func(why int) {
		switch why {
		case timeout:
			watch(t, b, 0, 3, enable|lock)
			b.Tick(7)
			want = append(want, board.Event{At: b.Time() - 4, Cause: why})
		case early:
			watch(t, b, 1, 3, enable)
			store(t, b, pair{dogKey, first}, pair{dogKey, second})
			want = append(want, board.Event{At: b.Time(), Cause: why})
		case wrong:
			watch(t, b, 1, 3, enable)
			store(t, b, pair{dogKey, 0})
			want = append(want, board.Event{At: b.Time(), Cause: why})
		case soft:
			store(t, b, pair{resetKey, key})
			want = append(want, board.Event{At: b.Time(), Cause: why})
		}
		had |= uint32(why)
	}
	for i, why := range []int{soft, soft, timeout, early, wrong, wrong, timeout, timeout, soft, early} {
		turn(why)
		if !slices.Equal(b.Resets(), want) || load(t, b, cause) != had || load(t, b, last) != uint32(why) || load(t, b, many) != uint32(i+1) {
			t.Error(i, b.Resets(), want, load(t, b, cause), had)
		}
		if i%4 == 3 {
			store(t, b, pair{cause, all})
			had = 0
		}
	}
	told := b.Resets()
	clear(told)
	_ = append(told[:1], board.Event{At: 1, Cause: 1})
	if !slices.Equal(b.Resets(), want) {
		t.Error(b.Resets())
	}
}

// P11.3: ticks in two calls are as in one, wherever the reset is between them.
func TestTicksTogether(t *testing.T) {
	for total := range uint32(8) {
		for n := range uint64(9) {
			for part := range n + 1 {
				one := busy(t)
				watch(t, one, 0, total, enable)
				two := one.Copy()
				one.Tick(n)
				two.Tick(part)
				two.Tick(n - part)
				same(t, one, two)
			}
		}
	}
}

// P11.3: the time ends at Never and stays there, through resets too; the rest goes on.
func TestLastTick(t *testing.T) {
	b := of(t, 2, 1, 2)
	b.Tick(never - 3)
	watch(t, b, 0, 10, enable)
	start(t, b, 0, 12)
	if b.High() != 0 {
		t.Errorf("%x", b.High())
	}
	b.Tick(2)
	if b.Time() != never-1 || b.High() != 0 || b.Dog().Since() != 2 {
		t.Errorf("%d %x", b.Time(), b.High())
	}
	b.Tick(7)
	if b.Time() != never || b.High() != 3 || b.Dog().Since() != 9 || b.Rtc().Seconds() != 1<<63+2 || b.Rtc().Rest() != 1 {
		t.Errorf("%d %x %d %d", b.Time(), b.High(), b.Dog().Since(), b.Rtc().Seconds())
	}
	b.Tick(1)
	if l := b.Resets(); len(l) != 1 || l[0] != (board.Event{At: never, Cause: timeout}) {
		t.Error(l)
	}
	// Comparators are Never behind a reset, which is the time.
	if b.High() != 3 || load(t, b, linesAt) != 3 {
		t.Errorf("%x", b.High())
	}
	set(t, b, 0, 1)
	store(t, b, pair{resetKey, key}, pair{mask, 2})
	if b.Time() != never || !b.Line(0) || b.Compare(0) != never || !b.Out() {
		t.Error(b.Time(), b.Line(0), b.Compare(0))
	}
	b.Tick(never)
	if l := b.Resets(); b.Time() != never || len(l) != 2 || l[1] != (board.Event{At: never, Cause: soft}) {
		t.Error(b.Time(), l)
	}
}

// P11.1: great numbers of ticks end, with all devices under way.
func TestGreatTicks(t *testing.T) {
	for _, n := range []uint64{1<<32 - 1, 1 << 32, 1 << 62, 1<<63 + 1, never - 1, never} {
		b := of(t, 8, 8, 3)
		for i := range 8 {
			store(t, b, pair{timer(i), uint32(i)}, pair{timer(i) + 8, enable | reload | irq | 0xff00})
		}
		watch(t, b, all-1, all, enable|lock)
		b.Tick(n)
		if l := b.Resets(); b.Time() != n || len(l) != 1 || l[0] != (board.Event{At: all, Cause: timeout}) || b.Rtc().Seconds() != n/3 || uint64(b.Rtc().Rest()) != n%3 {
			t.Error(n, b.Time(), l)
		}
		start(t, b, 7, all)
		if b.Tick(all); b.Bank().Lines() != 0x80 {
			t.Error(n, b.Bank().Lines())
		}
	}
}

// P11.2: Dog, Bank and Rtc are copies: what is done to them isn't told of the board.
func TestCopiesOfDevices(t *testing.T) {
	b := busy(t)
	watch(t, b, 2, 9, enable)
	b.Tick(1)
	kept := b.Copy()
	dog, timers, clock := b.Dog(), b.Bank(), b.Rtc()
	if dog.Since() != 1 || dog.Left() != 8 || timers.Len() != 3 || timers.Runs() != 0 || timers.Lines() != 7 || !clock.Met() || clock.Rest() != 2 {
		t.Error(dog, timers.Runs(), clock)
	}
	dog.Tick(100)
	dog.Reset()
	timers.Store(0x8, 0)
	timers.Reset()
	clock.Store(0x18, 0)
	clock.Reset()
	clock.Tick(99)
	same(t, b, kept)
	if *b.Dog() == *dog || b.Bank().Lines() == timers.Lines() || *b.Rtc() == *clock {
		t.Error("the board's own")
	}
}

// P11.2: Copy is the same, and what is done to one isn't told of the other.
func TestCopy(t *testing.T) {
	b := busy(t)
	store(t, b, pair{resetKey, key}, pair{softs, 1}, pair{mask, 5}, pair{resetKey, 1})
	watch(t, b, 3, 9, enable|lock)
	store(t, b, pair{dogKey, first})
	b.Tick(2)
	a, c := b.Copy(), b.Copy()
	same(t, a, b)
	wired(t, a)
	for _, addr := range addresses(a.Config()) {
		a.Store(addr, all)
		same(t, b, c)
	}
	start(t, a, 2, 3)
	a.Tick(1000)
	store(t, a, pair{resetKey, key}, pair{resetKey, key})
	same(t, b, c)
	d := b.Copy()
	b.Tick(7)
	if len(b.Resets()) != 2 || len(d.Resets()) != 1 || len(c.Resets()) != 1 || c.Time() != 13 {
		t.Error(b.Resets(), d.Resets(), c.Resets(), c.Time())
	}
	// Both go on alike, and neither's resets are told of the other.
	d.Tick(7)
	same(t, b, d)
	store(t, d, pair{resetKey, key})
	watch(t, b, 1, 2, enable)
	store(t, b, pair{dogKey, 0})
	if x, y := b.Resets(), d.Resets(); len(x) != 3 || len(y) != 3 || x[2].Cause != wrong || y[2].Cause != soft {
		t.Error(x, y)
	}
	// However many there are, wherever a list of them has spare room.
	for range 9 {
		d = b.Copy()
		store(t, b, pair{resetKey, key})
		watch(t, d, 1, 2, enable)
		store(t, d, pair{dogKey, 0})
		x, y := b.Resets(), d.Resets()
		if n := len(x); len(y) != n || x[n-1].Cause != soft || y[n-1].Cause != wrong || !slices.Equal(x[:n-1], y[:n-1]) {
			t.Error(x, y)
		}
	}
}

// The chapter's example.
func TestExample(t *testing.T) {
	b := of(t, 1, 1, 10)
	watch(t, b, 0, 5, enable)
	b.Tick(8)
	if l := b.Resets(); b.Time() != 8 || len(l) != 1 || l[0] != (board.Event{At: 5, Cause: 2}) {
		t.Error(b.Time(), l)
	}
	for off := uint32(0); off < wdog.Size; off += 4 {
		if v := load(t, b, wdogAt+off); v != 0 {
			t.Error(off, v)
		}
	}
}

// P11.3: a nil board, which tells a misaligned address.
func TestNilBoard(t *testing.T) {
	var b *board.Board
	b.Tick(0)
	b.Tick(never)
	if b.Time() != 0 || b.High() != 0 || b.Out() || b.Resets() != nil || b.Config() != (board.Config{}) || b.Dog() != nil || b.Bank() != nil || b.Rtc() != nil || b.Copy() != nil {
		t.Error(b.Time(), b.High(), b.Out(), b.Resets(), b.Config())
	}
	for _, hart := range []int{-1 << 63, -1, 0, 1, 7, 8, 1<<63 - 1} {
		if b.Compare(hart) != never || b.Line(hart) {
			t.Error(hart)
		}
	}
	for _, addr := range append(addresses(board.Config{Harts: 8, Counts: 8}), 0, 4, all-3) {
		for off := range uint32(4) {
			want := api.ErrAlign
			if off == 0 {
				want = api.ErrBus
			}
			if v, e := b.Load(addr + off); v != 0 || e != want {
				t.Errorf("%x: %d, %d", addr+off, v, e)
			}
			if e := b.Store(addr+off, key); e != want {
				t.Errorf("%x: %d", addr+off, e)
			}
		}
	}
}

// P1: calls of one that wasn't made by New end, too.
func TestZeroBoard(t *testing.T) {
	var b board.Board
	for _, addr := range append(addresses(board.Config{Harts: 8, Counts: 8}), 0, 1, all) {
		b.Load(addr)
		b.Store(addr, key)
	}
	b.Tick(never)
	b.Copy().Tick(1)
	b.Time()
	b.Compare(0)
	b.Line(0)
	b.High()
	b.Out()
	b.Resets()
	b.Config()
	b.Dog()
	b.Bank()
	b.Rtc()
}
