package board_test

import (
	"slices"
	"testing"

	"minuterie/api"
	"minuterie/bank"
	"minuterie/board"
	"minuterie/clint"
	"minuterie/rstc"
	"minuterie/rtc"
	"minuterie/wdog"
)

// plain is a board as the chapter's words tell it: devices side by side, tick by tick, on no bus.
type plain struct {
	config board.Config
	clint  *clint.Clint
	bank   *bank.Bank
	dog    *wdog.Wdog
	rstc   *rstc.Rstc
	rtc    *rtc.Rtc
	mask   uint32
	resets []board.Event
}

func plainOf(c board.Config) *plain {
	p := &plain{config: c, dog: wdog.New(), rstc: rstc.New()}
	p.clint, _ = clint.New(c.Harts)
	p.bank, _ = bank.New(c.Counts)
	p.rtc, _ = rtc.New(c.Div)
	return p
}

func (p *plain) copied() *plain {
	return &plain{p.config, p.clint.Copy(), p.bank.Copy(), p.dog.Copy(), p.rstc.Copy(), p.rtc.Copy(), p.mask, slices.Clone(p.resets)}
}

func (p *plain) reset(why int) {
	p.rstc.Latch(why)
	p.clint.Reset()
	p.bank.Reset()
	p.dog.Reset()
	p.rtc.Reset()
	p.mask = 0
	p.resets = append(p.resets, board.Event{At: p.clint.Time(), Cause: why})
}

func (p *plain) look() {
	if why := p.dog.Fault(); why != 0 {
		p.reset(why)
	}
	if p.rstc.Asked() {
		p.reset(soft)
	}
}

func (p *plain) ticks(n uint64) {
	for range n {
		p.clint.Tick(1)
		p.bank.Tick(1)
		p.dog.Tick(1)
		p.rtc.Tick(1)
		p.look()
	}
}

func (p *plain) high() uint32 {
	var high uint32
	for hart := range 8 {
		if p.clint.Line(hart) {
			high += 1 << hart
		}
		if p.clint.Soft(hart) {
			high += 1 << (24 + hart)
		}
	}
	if p.rtc.Line() {
		high += 1 << 16
	}
	return high + p.bank.Lines()*0x100
}

// controller is the lines', as a device that asks for them whenever it is loaded.
type controller struct{ p *plain }

func (w controller) Load(off uint32) (uint32, api.Errno) {
	switch off {
	case 0:
		return w.p.high(), api.OK
	case 4:
		return w.p.mask, api.OK
	}
	return w.p.high() & w.p.mask, api.OK
}

func (w controller) Store(off, v uint32) api.Errno {
	if off != 4 {
		return api.ErrRead
	}
	w.p.mask = v
	return api.OK
}

// device is what loads and stores words.
type device interface {
	Load(off uint32) (uint32, api.Errno)
	Store(off, v uint32) api.Errno
}

// at is an address's device and its offset there.
func (p *plain) at(addr uint32) (device, uint32, api.Errno) {
	if addr%4 != 0 {
		return nil, 0, api.ErrAlign
	}
	for _, x := range []struct {
		base, size uint32
		d          device
	}{{0x2000000, 0xc000, p.clint}, {0x10010000, 0x100, p.bank}, {0x10020000, 0x14, p.dog}, {0x10030000, 0x10, p.rstc}, {0x10040000, 0x24, p.rtc}, {0x10050000, 0xc, controller{p}}} {
		if addr >= x.base && addr-x.base < x.size {
			return x.d, addr - x.base, api.OK
		}
	}
	return nil, 0, api.ErrBus
}

func (p *plain) load(addr uint32) (uint32, api.Errno) {
	d, off, e := p.at(addr)
	if e != api.OK {
		return 0, e
	}
	return d.Load(off)
}

func (p *plain) store(addr, v uint32) api.Errno {
	d, off, e := p.at(addr)
	if e != api.OK {
		return e
	}
	e = d.Store(off, v)
	p.look()
	return e
}

// check looks whether a board tells what a plain one does.
func check(t *testing.T, b *board.Board, p *plain) {
	t.Helper()
	if b.Time() != p.clint.Time() || b.High() != p.high() || b.Out() != (p.high()&p.mask != 0) || !slices.Equal(b.Resets(), p.resets) || b.Config() != p.config || *b.Dog() != *p.dog || *b.Rtc() != *p.rtc {
		t.Fatal(b.Time(), p.clint.Time(), b.High(), p.high(), b.Resets(), p.resets)
	}
	for hart := -1; hart < 9; hart++ {
		if b.Compare(hart) != p.clint.Compare(hart) || b.Line(hart) != p.clint.Line(hart) {
			t.Fatal(hart, b.Compare(hart), b.Line(hart))
		}
	}
	for i := range p.config.Counts {
		if *b.Bank().Timer(i) != *p.bank.Timer(i) {
			t.Fatal(i, b.Bank().Timer(i), p.bank.Timer(i))
		}
	}
	for _, addr := range addresses(p.config) {
		v, e := b.Load(addr)
		if want, answer := p.load(addr); v != want || e != answer {
			t.Fatalf("%x: %x, %d, not %x, %d", addr, v, e, want, answer)
		}
	}
}

// word is one that means something to a register of a kind, oftener than chance would have it.
func word(addr, x uint32, now uint64) uint32 {
	switch addr {
	case dogControl, rtcControl:
		return x % 4
	case dogClosed:
		return x % 4
	case dogTotal:
		return x % 12
	case dogKey:
		return []uint32{first, first, second, second, x}[x>>8%5]
	case resetKey:
		return []uint32{key, x, 0, 1, key + 1}[x>>8%5]
	case alarmLo, setLo:
		return x % 8
	case alarmHi, setHi:
		return x >> 8 % 64 / 63
	}
	switch {
	case addr >= compares && addr < times && addr%8 == 0:
		return uint32(now) + x%8
	case addr >= compares && addr < times:
		return x >> 8 % 64 / 63
	case addr >= bankAt && addr < wdogAt && addr%16 == 0:
		return x % 6
	case addr >= bankAt && addr < wdogAt && addr%16 == 8:
		return x & 0x107
	}
	return x
}

// twin is a board and a plain one, to which the same is done.
type twin struct {
	b *board.Board
	p *plain
}

func (x twin) store(t *testing.T, addr, v uint32) {
	t.Helper()
	if e, want := x.b.Store(addr, v), x.p.store(addr, v); e != want {
		t.Fatalf("%x: %d, not %d", addr, e, want)
	}
}

func (x twin) load(t *testing.T, addr uint32) {
	t.Helper()
	v, e := x.b.Load(addr)
	if want, answer := x.p.load(addr); v != want || e != answer {
		t.Fatalf("%x: %x, %d, not %x, %d", addr, v, e, want, answer)
	}
}

// step does the same to both of a twin.
func (x twin) step(t *testing.T, kind, a, b uint32) {
	t.Helper()
	l := addresses(x.p.config)
	// The registers of the watchdog and what is around it, which else are met too seldom.
	few := []uint32{dogControl, dogClosed, dogTotal, dogKey, dogKey, dogKey, dogKey, resetKey, mask, rtcControl, rtcStatus, compares, compares + 4, timer(0), timer(0) + 8, timer(0) + 12, cause}
	switch {
	case kind < 3:
		n := uint64(a % 14)
		x.b.Tick(n)
		x.p.ticks(n)
	case kind < 5:
		addr := l[int(a)%len(l)]
		x.store(t, addr, word(addr, b, x.p.clint.Time()))
	case kind < 10:
		addr := few[int(a)%len(few)]
		x.store(t, addr, word(addr, b, x.p.clint.Time()))
	case kind == 10:
		addr := l[int(a)%len(l)] + b%70 - 35
		x.load(t, addr)
		x.store(t, addr, b)
	case kind == 11:
		x.store(t, dogClosed, a%9)
		x.store(t, dogTotal, 9+a%16)
		x.store(t, dogControl, enable|b%4)
	}
	check(t, x.b, x.p)
}

// P11.1 to P11.3, P1, P2: boards tell what plain ones do, call by call, also their copies, and the same again.
func TestBoardsArePlainOnes(t *testing.T) {
	seed := uint64(110)
	draw := func() uint32 {
		seed = next(seed)
		return uint32(seed >> 32)
	}
	seen := map[int]int{}
	for round := range 40 {
		c := board.Config{Harts: 1 + round%8, Counts: 1 + round*3%8, Div: 1 + uint32(round%7)}
		x := twin{of(t, c.Harts, c.Counts, c.Div), plainOf(c)}
		again := twin{of(t, c.Harts, c.Counts, c.Div), plainOf(c)}
		for range 900 {
			kind, a, b := draw()%13, draw(), draw()
			if kind == 12 {
				left := twin{x.b, x.p.copied()}
				x.b = x.b.Copy()
				left.step(t, a%12, b, a)
				check(t, x.b, x.p)
				continue
			}
			x.step(t, kind, a, b)
			again.step(t, kind, a, b)
		}
		same(t, x.b, again.b)
		for _, event := range x.b.Resets() {
			seen[event.Cause]++
		}
	}
	for _, why := range []int{timeout, early, wrong, soft} {
		if seen[why] < 20 {
			t.Error("too seldom", why, seen[why])
		}
	}
}
