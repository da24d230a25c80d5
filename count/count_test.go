package count_test

import (
	"testing"

	"minuterie/api"
	"minuterie/bus"
	"minuterie/count"
)

const (
	all   = 1<<32 - 1
	never = uint64(1<<64 - 1)
)

// Control's bits.
const (
	enable = 1
	reload = 2
	irq    = 4
)

func prescale(n uint32) uint32 { return n << 8 }

func next(n uint64) uint64 { return n*6364136223846793005 + 1442695040888963407 }

// words are those at which something turns over, each single bit, and some without a rule.
func words() []uint32 {
	l := []uint32{0, 3, 5, 7, 0x00ff, 0xff00, 0xff07, 0xfff8, 0x7fffffff, 0xffff0000, 0x55555555, 0xaaaaaaaa, 0xdeadbeef, all - 1, all}
	for bit := range 32 {
		l = append(l, 1<<bit)
	}
	n := uint64(6)
	for range 8 {
		n = next(n)
		l = append(l, uint32(n>>32))
	}
	return l
}

// offsets are the registers', those beside them, and those far away.
func offsets() []uint32 {
	var l []uint32
	for off := range uint32(48) {
		l = append(l, off)
	}
	return append(l, 0x40, 0x100, 0x104, 0x108, 0x10c, 1<<16, 1<<16+8, 1<<30, 1<<30+8, 1<<31, 1<<31+4, 1<<31+8, 1<<31+9, all-15, all-11, all-7, all-4, all-3, all-2, all-1, all)
}

// plain is a timer as the document's words tell it, tick by tick.
type plain struct {
	load, value                 uint32
	enable, reload, irq, status bool
	prescale, phase, expiries   int
}

func (p *plain) tick() {
	if !p.enable {
		return
	}
	p.phase++
	if p.phase > p.prescale {
		p.phase = 0
		p.step()
	}
}

func (p *plain) step() {
	if p.value > 1 {
		p.value--
		return
	}
	p.status = true
	p.expiries++
	if p.reload && p.load != 0 {
		p.value = p.load
		return
	}
	p.value, p.enable, p.phase = 0, false, 0
}

func (p *plain) ticks(n uint64) {
	for range n {
		p.tick()
	}
}

// left: of a copy, how many ticks there are till it has expired once more.
func (p *plain) left() uint64 {
	if !p.enable {
		return never
	}
	c := *p
	n := uint64(0)
	for c.expiries == p.expiries {
		c.tick()
		n++
	}
	return n
}

func number(is bool) uint32 {
	if is {
		return 1
	}
	return 0
}

func (p *plain) load4() [4]uint32 {
	control := number(p.enable) + 2*number(p.reload) + 4*number(p.irq) + 256*uint32(p.prescale)
	return [4]uint32{p.load, p.value, control, number(p.status)}
}

func (p *plain) store(off, v uint32) api.Errno {
	switch off {
	case 0:
		p.load = v
	case 4:
		return api.ErrRead
	case 8:
		ran := p.enable
		p.enable, p.reload, p.irq = v%2 == 1, v/2%2 == 1, v/4%2 == 1
		p.prescale, p.phase = int(v/256%256), 0
		if !ran && p.enable {
			p.value = p.load
		}
	case 12:
		if v%2 == 1 {
			p.status = false
		}
	default:
		if off%4 != 0 {
			return api.ErrAlign
		}
		return api.ErrBus
	}
	return api.OK
}

func registers(t *testing.T, c *count.Count) [4]uint32 {
	t.Helper()
	var l [4]uint32
	for i := range l {
		v, e := c.Load(uint32(4 * i))
		if e != api.OK {
			t.Fatal(i, e)
		}
		l[i] = v
	}
	return l
}

// check: a timer tells what a plain one does, whatever it is asked.
func check(t *testing.T, c *count.Count, p *plain) {
	t.Helper()
	if got, want := registers(t, c), p.load4(); got != want {
		t.Fatal("registers", got, want)
	}
	if c.Runs() != p.enable || c.Line() != (p.status && p.irq) {
		t.Fatal("runs, line", c.Runs(), c.Line(), *p)
	}
	if got, want := c.Left(), p.left(); got != want {
		t.Fatal("left", got, want, *p)
	}
}

func store(t *testing.T, c *count.Count, off, v uint32) {
	t.Helper()
	if e := c.Store(off, v); e != api.OK {
		t.Fatal(off, v, e)
	}
}

// made is a timer of this load and control.
func made(t *testing.T, load, control uint32) *count.Count {
	t.Helper()
	c := count.New()
	store(t, c, 0, load)
	store(t, c, 8, control)
	return c
}

// same: two timers are in one state, its phase too, which Left tells.
func same(t *testing.T, a, b *count.Count) {
	t.Helper()
	if x, y := registers(t, a), registers(t, b); x != y || a.Left() != b.Left() || a.Runs() != b.Runs() || a.Line() != b.Line() {
		t.Fatal(x, y, a.Left(), b.Left())
	}
}

// P6.1: New.
func TestNew(t *testing.T) {
	c := count.New()
	check(t, c, &plain{})
	if c.Runs() || c.Line() || c.Left() != never || registers(t, c) != [4]uint32{} {
		t.Error(c.Runs(), c.Line(), c.Left(), registers(t, c))
	}
	store(t, c, 0, 7)
	store(t, c, 8, all)
	if registers(t, count.New()) != [4]uint32{} {
		t.Error("shared")
	}
	if count.Size != 0x10 {
		t.Error(count.Size)
	}
}

// P6.1: Tick, by ones, of small loads, prescales, and all flags.
func TestTickByTick(t *testing.T) {
	for _, load := range []uint32{0, 1, 2, 3, 4, 7} {
		for _, pre := range []uint32{0, 1, 2, 5} {
			for flags := range uint32(8) {
				c, p := made(t, load, prescale(pre)+flags), &plain{}
				p.store(0, load)
				p.store(8, prescale(pre)+flags)
				for range 3 * max(load, 1) * (pre + 1) {
					check(t, c, p)
					c.Tick(0)
					check(t, c, p)
					c.Tick(1)
					p.tick()
				}
				check(t, c, p)
			}
		}
	}
}

// P6.1: Tick, of many at once, from each state of a round.
func TestTicksAtOnce(t *testing.T) {
	for _, load := range []uint32{0, 1, 2, 5} {
		for _, pre := range []uint32{0, 1, 3} {
			for flags := range uint32(8) {
				for from := range uint64(20) {
					for n := range uint64(45) {
						c, p := made(t, load, prescale(pre)+flags), &plain{}
						p.store(0, load)
						p.store(8, prescale(pre)+flags)
						c.Tick(from)
						p.ticks(from)
						c.Tick(n)
						p.ticks(n)
						check(t, c, p)
					}
				}
			}
		}
	}
}

// P6.1, P6.3: a load that was changed on the way counts from the next expiry on.
func TestLoadOnTheWay(t *testing.T) {
	for _, load := range []uint32{0, 1, 2, 3, 9} {
		for _, flags := range []uint32{enable, enable | reload} {
			for from := range uint64(14) {
				for n := range uint64(50) {
					c, p := made(t, 3, prescale(1)+flags), &plain{}
					p.store(0, 3)
					p.store(8, prescale(1)+flags)
					c.Tick(from)
					p.ticks(from)
					value := registers(t, c)[1]
					store(t, c, 0, load)
					p.store(0, load)
					if registers(t, c)[1] != value {
						t.Fatal(load, from, value)
					}
					check(t, c, p)
					c.Tick(n)
					p.ticks(n)
					check(t, c, p)
				}
			}
		}
	}
}

// great are numbers of ticks, up to the greatest.
func great() []uint64 {
	l := []uint64{0, 1, 2, 255, 256, 257, all - 1, all, 1 << 32, 1<<32 + 1, 1<<40 - 257, 1<<40 - 256, 1<<40 - 255, 1<<40 - 1, 1 << 40, 1<<41 + 77, 1<<63 - 1, 1 << 63, never - 1, never}
	n := uint64(66)
	for range 6 {
		n = next(n)
		l = append(l, n, n>>24)
	}
	return l
}

// P6.3: ticks in two calls are as in one, up to the greatest numbers.
func TestTicksTogether(t *testing.T) {
	for _, load := range []uint32{0, 1, 2, 1000003, 1 << 31, all} {
		for _, control := range []uint32{enable, enable | reload, enable | reload | irq, prescale(1) | enable | reload, prescale(6) | enable, prescale(255) | enable, prescale(255) | enable | reload, prescale(255) | reload} {
			for _, a := range great() {
				for _, b := range great() {
					if b > never-a {
						continue
					}
					one, two := made(t, load, control), made(t, load, control)
					one.Tick(a + b)
					two.Tick(a)
					two.Tick(b)
					same(t, one, two)
				}
			}
		}
	}
}

// P6.1: what a great number of ticks leaves, counted by whole rounds.
func TestGreatTicks(t *testing.T) {
	for _, load := range []uint32{1, 2, 3, 1000003, 1 << 31, all - 1, all} {
		for _, pre := range []uint32{0, 1, 6, 254, 255} {
			round := uint64(load) * uint64(pre+1)
			for _, n := range great() {
				c := made(t, load, prescale(pre)|enable|reload|irq)
				c.Tick(n)
				in := n % round
				want := [4]uint32{load, load - uint32(in/uint64(pre+1)), prescale(pre) | enable | reload | irq, number(n >= round)}
				if got := registers(t, c); got != want || c.Left() != round-in || c.Line() != (n >= round) || !c.Runs() {
					t.Fatal(load, pre, n, got, want, c.Left())
				}
				c = made(t, load, prescale(pre)|enable|irq)
				c.Tick(n)
				if n < round {
					want[2], want[3] = prescale(pre)|enable|irq, 0
				} else {
					want = [4]uint32{load, 0, prescale(pre) | irq, 1}
				}
				if got := registers(t, c); got != want || c.Runs() != (n < round) || c.Line() != (n >= round) {
					t.Fatal(load, pre, n, got, want)
				}
			}
		}
	}
}

// P6.1, P6.3: behind Left ticks it has expired, behind one less it hasn't.
func TestLeft(t *testing.T) {
	for _, load := range []uint32{0, 1, 2, 3, 100, 1 << 31, all} {
		for _, pre := range []uint32{0, 1, 2, 254, 255} {
			for _, flags := range []uint32{enable, enable | reload} {
				first := uint64(max(load, 1)) * uint64(pre+1)
				for _, from := range []uint64{0, 1, 2, 255, 256, first / 2, first - 1} {
					c := made(t, load, prescale(pre)|flags)
					if c.Left() != first {
						t.Fatal(load, pre, c.Left(), first)
					}
					if from >= first {
						continue
					}
					c.Tick(from)
					if c.Left() != first-from {
						t.Fatal(load, pre, from, c.Left())
					}
					c.Tick(first - from - 1)
					if registers(t, c)[3] != 0 || !c.Runs() || c.Left() != 1 {
						t.Fatal(load, pre, from, registers(t, c))
					}
					c.Tick(1)
					if registers(t, c)[3] != 1 || c.Runs() != (flags == enable|reload && load != 0) {
						t.Fatal(load, pre, from, registers(t, c))
					}
				}
			}
		}
	}
}

// P6.1: Left of a timer that doesn't run, however it came to that.
func TestLeftOfNone(t *testing.T) {
	stopped := made(t, 5, prescale(3)|enable|reload)
	stopped.Tick(6)
	store(t, stopped, 8, prescale(3)|reload)
	shot := made(t, 5, enable)
	shot.Tick(5)
	for i, c := range []*count.Count{count.New(), made(t, 5, reload|irq), made(t, 5, prescale(255)), stopped, shot} {
		ahead := registers(t, c)
		if c.Left() != never || c.Runs() {
			t.Error(i, c.Left())
		}
		for _, n := range great() {
			c.Tick(n)
		}
		if got := registers(t, c); got != ahead || c.Left() != never || c.Runs() {
			t.Error(i, got, ahead)
		}
	}
}

// P6.1: the line is high, while Status and Irq are 1.
func TestLine(t *testing.T) {
	for flags := range uint32(8) {
		c := made(t, 2, flags)
		c.Tick(1)
		if c.Line() {
			t.Error(flags)
		}
		c.Tick(1)
		if c.Line() != (flags&enable != 0 && flags&irq != 0) {
			t.Error(flags)
		}
		if store(t, c, 8, flags&^irq); c.Line() {
			t.Error(flags)
		}
		if store(t, c, 8, flags|irq); c.Line() != (flags&enable != 0) {
			t.Error(flags)
		}
		if store(t, c, 12, 1); c.Line() {
			t.Error(flags)
		}
	}
}

// P6.2: Load is written, all its bits, and nothing else changes.
func TestStoreLoad(t *testing.T) {
	for _, v := range words() {
		for _, control := range []uint32{0, enable, prescale(2) | enable | reload} {
			c := made(t, 9, control)
			c.Tick(4)
			want, left := registers(t, c), c.Left()
			want[0] = v
			if store(t, c, 0, v); registers(t, c) != want || c.Left() != left {
				t.Error(v, registers(t, c), want)
			}
		}
	}
}

// P6.2: of control the bits that it has alone are written, by any that was ahead.
func TestStoreControl(t *testing.T) {
	for _, ahead := range words() {
		for _, v := range words() {
			c := made(t, 5, ahead)
			store(t, c, 0, 8)
			store(t, c, 8, v)
			value := uint32(0)
			switch {
			case ahead%2 == 1:
				value = 5
			case v%2 == 1:
				value = 8
			}
			if got, want := registers(t, c), [4]uint32{8, value, v & 0xff07, 0}; got != want {
				t.Fatal(ahead, v, got, want)
			}
		}
	}
}

// P6.2: when control is written, the phase is 0; Value is Load just if Enable was 0 and is 1 then.
func TestStoreControlOnTheWay(t *testing.T) {
	for before := range uint32(2) {
		for behind := range uint32(2) {
			for from := range uint64(30) {
				c, p := made(t, 6, prescale(2)|reload|before), &plain{}
				p.store(0, 6)
				p.store(8, prescale(2)|reload|before)
				c.Tick(from)
				p.ticks(from)
				for _, x := range [][2]uint32{{0, 4}, {8, prescale(3) | reload | behind}} {
					store(t, c, x[0], x[1])
					p.store(x[0], x[1])
					check(t, c, p)
				}
				c.Tick(3)
				p.ticks(3)
				check(t, c, p)
				store(t, c, 8, prescale(1)|enable)
				p.store(8, prescale(1)|enable)
				check(t, c, p)
			}
		}
	}
	c := made(t, 5, prescale(3)|enable)
	c.Tick(7)
	if got := registers(t, c); got[1] != 4 || c.Left() != 13 {
		t.Error(got, c.Left())
	}
	if store(t, c, 8, prescale(3)|enable); registers(t, c)[1] != 4 || c.Left() != 16 {
		t.Error(registers(t, c), c.Left())
	}
	store(t, c, 8, 0)
	if store(t, c, 8, enable); registers(t, c)[1] != 5 || c.Left() != 5 {
		t.Error(registers(t, c), c.Left())
	}
}

// P6.2: Status is cleared by its own bit alone, and is never set so.
func TestStoreStatus(t *testing.T) {
	for _, expired := range []bool{false, true} {
		for _, v := range words() {
			c := made(t, 3, prescale(1)|enable|reload|irq)
			if c.Tick(3); expired {
				c.Tick(6)
			}
			want, left := registers(t, c), c.Left()
			if want[3] != number(expired) {
				t.Fatal(want)
			}
			if v%2 == 1 {
				want[3] = 0
			}
			if store(t, c, 12, v); registers(t, c) != want || c.Left() != left || c.Line() != (want[3] == 1) {
				t.Error(expired, v, registers(t, c), want)
			}
		}
	}
	c := made(t, 2, enable|reload)
	for i := range 5 {
		if c.Tick(2); registers(t, c)[3] != 1 {
			t.Error(i)
		}
		store(t, c, 12, 1)
		if c.Tick(0); registers(t, c)[3] != 0 {
			t.Error(i)
		}
	}
}

// P6.2: errors of Load and Store, in their order; what is refused changes nothing.
func TestErrors(t *testing.T) {
	c := made(t, 0x99, prescale(4)|enable|reload|irq)
	c.Tick(0x99*5 + 7)
	ahead, before := c.Copy(), registers(t, c)
	for _, off := range offsets() {
		want := api.ErrBus
		switch {
		case off%4 != 0:
			want = api.ErrAlign
		case off < 16:
			want = api.OK
		}
		v, e := c.Load(off)
		if e != want || e != api.OK && v != 0 || e == api.OK && v != before[off/4] {
			t.Errorf("load %x: %d %d", off, v, e)
		}
		if off == 4 {
			want = api.ErrRead
		}
		if want == api.OK {
			continue
		}
		for _, v := range words() {
			if e := c.Store(off, v); e != want {
				t.Errorf("store %x: %d, not %d", off, e, want)
			}
		}
		same(t, c, ahead)
	}
	for range 12 {
		c.Tick(1)
		ahead.Tick(1)
		same(t, c, ahead)
	}
}

// P6.1: Reset: all is as at first, from any state.
func TestReset(t *testing.T) {
	for _, control := range []uint32{0, enable, enable | reload | irq, prescale(9) | enable | reload | irq, all} {
		for _, n := range []uint64{0, 1, 4, 5, 33, 1 << 40, never} {
			c := made(t, 5, control)
			c.Tick(n)
			c.Reset()
			check(t, c, &plain{})
			c.Tick(n)
			check(t, c, &plain{})
			store(t, c, 8, prescale(2)|enable)
			if c.Left() != 3 {
				t.Error(control, n, c.Left())
			}
			c.Reset()
			c.Reset()
			check(t, c, &plain{})
		}
	}
}

// P6.1: Copy is the same, and what is done to one isn't told of the other.
func TestCopy(t *testing.T) {
	for _, control := range []uint32{0, enable | irq, prescale(2) | enable | reload | irq} {
		for n := range uint64(20) {
			c, p := made(t, 4, control), &plain{}
			p.store(0, 4)
			p.store(8, control)
			c.Tick(n)
			p.ticks(n)
			d, q := c.Copy(), *p
			if d == c {
				t.Fatal("the very")
			}
			check(t, d, &q)
			c.Tick(2)
			p.ticks(2)
			store(t, c, 0, 7)
			p.store(0, 7)
			check(t, c, p)
			check(t, d, &q)
			d.Tick(7)
			q.ticks(7)
			check(t, d, &q)
			check(t, c, p)
			d.Copy().Copy().Reset()
			check(t, d, &q)
			c.Reset()
			check(t, d, &q)
		}
	}
}

// The chapter's example.
func TestExample(t *testing.T) {
	c := made(t, 3, 0x103)
	if c.Left() != 6 {
		t.Error(c.Left())
	}
	if c.Tick(5); registers(t, c) != [4]uint32{3, 1, 0x103, 0} {
		t.Error(registers(t, c))
	}
	if c.Tick(1); registers(t, c) != [4]uint32{3, 3, 0x103, 1} {
		t.Error(registers(t, c))
	}
}

// A load of 0 expires by one step, and stops, also where it should reload.
func TestLoadOfNothing(t *testing.T) {
	for _, flags := range []uint32{enable, enable | reload} {
		for _, pre := range []uint32{0, 3} {
			c := made(t, 0, prescale(pre)|flags)
			if !c.Runs() || c.Left() != uint64(pre)+1 {
				t.Error(flags, pre, c.Left())
			}
			c.Tick(uint64(pre))
			if got := registers(t, c); got != [4]uint32{0, 0, prescale(pre) | flags, 0} || c.Left() != 1 {
				t.Error(flags, pre, got)
			}
			c.Tick(1)
			if got := registers(t, c); got != [4]uint32{0, 0, prescale(pre) | flags&^enable, 1} || c.Left() != never {
				t.Error(flags, pre, got)
			}
		}
	}
}

// P6.3: a nil timer, whose answer is ahead of that of a misaligned offset.
func TestNilCount(t *testing.T) {
	var c *count.Count
	for _, n := range great() {
		c.Tick(n)
	}
	c.Reset()
	if c.Line() || c.Runs() || c.Left() != never || c.Copy() != nil {
		t.Error(c.Line(), c.Runs(), c.Left(), c.Copy())
	}
	for _, off := range offsets() {
		if v, e := c.Load(off); v != 0 || e != api.ErrBus {
			t.Error(off, v, e)
		}
		if e := c.Store(off, all); e != api.ErrBus {
			t.Error(off, e)
		}
	}
}

// A timer is a device (3), and its room holds all its registers.
func TestOnABus(t *testing.T) {
	c, b := count.New(), bus.New()
	const base = 0x10010000
	if e := b.Attach(bus.Region{Base: base, Size: count.Size}, c); e != api.OK {
		t.Fatal(e)
	}
	if b.Store(base, 2) != api.OK || b.Store(base+8, enable|irq) != api.OK || b.Store(base+4, 0) != api.ErrRead || b.Store(base+16, 0) != api.ErrBus {
		t.Error("store")
	}
	if c.Tick(2); !c.Line() {
		t.Error("low")
	}
	if v, e := b.Load(base + 12); v != 1 || e != api.OK {
		t.Error(v, e)
	}
}

// step does the same to a timer and to a plain one, and tells both answers.
func step(c *count.Count, p *plain, kind, a, b uint32) (answer, want api.Errno) {
	switch kind {
	case 0, 1, 2:
		n := uint64(a % 9)
		if kind == 2 {
			n = uint64(b % 90)
		}
		c.Tick(n)
		p.ticks(n)
	case 3:
		return c.Store(0, a%6), p.store(0, a%6)
	case 4, 5:
		v := b&^0xff00 | a%4<<8
		return c.Store(8, v), p.store(8, v)
	case 6:
		return c.Store(12, b), p.store(12, b)
	case 7:
		off := a % 24
		v := b % 6 << (off % 2)
		return c.Store(off, v), p.store(off, v)
	case 8:
		if a%6 == 0 {
			c.Reset()
			*p = plain{}
		}
	}
	return api.OK, api.OK
}

// P6.1 to P6.3, P1, P2: timers tell what plain ones do, call by call, also their copies, and the same again.
func TestTimersArePlainOnes(t *testing.T) {
	n := uint64(60)
	draw := func() uint32 {
		n = next(n)
		return uint32(n >> 32)
	}
	for range 40 {
		c, again, p := count.New(), count.New(), &plain{}
		for range 400 {
			kind, a, b := draw()%10, draw(), draw()
			if kind == 9 {
				left, kept := c, *p
				c = c.Copy()
				step(left, p, a%9, b, a)
				check(t, left, p)
				p = &kept
			}
			answer, want := step(c, p, kind, a, b)
			if answer != want {
				t.Fatal(kind, a, b, answer, want)
			}
			forgotten := *p
			if answer, _ := step(again, &forgotten, kind, a, b); answer != want {
				t.Fatal(kind, a, b, answer, want)
			}
			check(t, c, p)
			check(t, again, p)
		}
	}
}
