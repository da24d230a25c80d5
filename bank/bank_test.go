package bank_test

import (
	"testing"

	"minuterie/api"
	"minuterie/bank"
	"minuterie/bus"
	"minuterie/count"
)

const (
	all   = 1<<32 - 1
	never = uint64(1<<64 - 1)
)

// Control's bits.
const (
	enable = 1
	reload = 2
	irq    = 4
)

func prescale(n uint32) uint32 { return n << 8 }

func next(n uint64) uint64 { return n*6364136223846793005 + 1442695040888963407 }

// of is a bank of so many timers.
func of(t *testing.T, n int) *bank.Bank {
	t.Helper()
	b, e := bank.New(n)
	if e != api.OK || b == nil {
		t.Fatal(n, b, e)
	}
	return b
}

func store(t *testing.T, b *bank.Bank, off, v uint32) {
	t.Helper()
	if e := b.Store(off, v); e != api.OK {
		t.Fatalf("store %x: %d", off, e)
	}
}

func load(t *testing.T, b *bank.Bank, off uint32) uint32 {
	t.Helper()
	v, e := b.Load(off)
	if e != api.OK {
		t.Fatalf("load %x: %d", off, e)
	}
	return v
}

// set starts a timer of a bank.
func set(t *testing.T, b *bank.Bank, i int, value, control uint32) {
	t.Helper()
	store(t, b, 0x20*uint32(i), value)
	store(t, b, 0x20*uint32(i)+8, control)
}

// plain is a bank as the document's words tell it: timers beside each other, each asked by itself.
type plain []*count.Count

func plainOf(n int) plain {
	var p plain
	for range n {
		p = append(p, count.New())
	}
	return p
}

func (p plain) tick(n uint64) {
	for _, c := range p {
		c.Tick(n)
	}
}

func (p plain) reset() {
	for _, c := range p {
		c.Reset()
	}
}

func (p plain) copied() plain {
	var q plain
	for _, c := range p {
		q = append(q, c.Copy())
	}
	return q
}

func (p plain) at(off uint32) (*count.Count, uint32, api.Errno) {
	if off%4 != 0 {
		return nil, 0, api.ErrAlign
	}
	for i, c := range p {
		for r := range uint32(4) {
			if off == 32*uint32(i)+4*r {
				return c, 4 * r, api.OK
			}
		}
	}
	return nil, 0, api.ErrBus
}

func (p plain) load(off uint32) (uint32, api.Errno) {
	c, r, e := p.at(off)
	if e != api.OK {
		return 0, e
	}
	return c.Load(r)
}

func (p plain) store(off, v uint32) api.Errno {
	c, r, e := p.at(off)
	if e != api.OK {
		return e
	}
	return c.Store(r, v)
}

func (p plain) word(is func(c *count.Count) bool) uint32 {
	w := uint32(0)
	for i := len(p) - 1; i >= 0; i-- {
		w *= 2
		if is(p[i]) {
			w++
		}
	}
	return w
}

// left goes from the last one to the first, so that of two the lesser one is told.
func (p plain) left() (uint64, int) {
	n, at := never, -1
	for i := len(p) - 1; i >= 0; i-- {
		if p[i].Runs() && p[i].Left() <= n {
			n, at = p[i].Left(), i
		}
	}
	return n, at
}

func registers(c *count.Count) [4]uint32 {
	var l [4]uint32
	for r := range l {
		l[r], _ = c.Load(uint32(4 * r))
	}
	return l
}

// same: two timers are in one state, the phase too, which Left tells.
func same(a, b *count.Count) bool {
	return registers(a) == registers(b) && a.Left() == b.Left() && a.Runs() == b.Runs() && a.Line() == b.Line()
}

// check: a bank tells what a plain one does, whatever it is asked.
func check(t *testing.T, b *bank.Bank, p plain) {
	t.Helper()
	if b.Len() != len(p) {
		t.Fatal("len", b.Len(), len(p))
	}
	if got, want := b.Lines(), p.word(func(c *count.Count) bool { return c.Line() }); got != want {
		t.Fatal("lines", got, want)
	}
	if got, want := b.Runs(), p.word(func(c *count.Count) bool { return c.Runs() }); got != want {
		t.Fatal("runs", got, want)
	}
	n, i := b.Left()
	if m, j := p.left(); n != m || i != j {
		t.Fatal("left", n, i, m, j)
	}
	for i, c := range p {
		if got := b.Timer(i); got == nil || !same(got, c) {
			t.Fatal("timer", i)
		}
		for r, want := range registers(c) {
			if got := load(t, b, uint32(32*i+4*r)); got != want {
				t.Fatal("register", i, r, got, want)
			}
		}
	}
}

// offsets are all of a bank's room and beyond, and those far away, which turn over where they are shortened.
func offsets() []uint32 {
	var l []uint32
	for off := range uint32(0x240) {
		l = append(l, off)
	}
	for _, base := range []uint32{1 << 12, 1 << 13, 1 << 16, 1 << 21, 1 << 30, 1 << 31, 3 << 30, all - 31} {
		for off := range uint32(24) {
			l = append(l, base+off)
		}
	}
	return append(l, all-4, all-3, all-2, all-1, all)
}

// P7.1: New: the numbers that are refused, and those that aren't.
func TestNew(t *testing.T) {
	for _, n := range []int{-1 << 63, -1 << 32, -1<<32 + 1, -8, -1, 0, 9, 10, 16, 257, 1 << 31, 1<<32 + 1, 1<<63 - 1} {
		if b, e := bank.New(n); b != nil || e != api.ErrRange {
			t.Error(n, b, e)
		}
	}
	for n := 1; n <= 8; n++ {
		b := of(t, n)
		if b.Len() != n || b.Runs() != 0 || b.Lines() != 0 {
			t.Error(n, b.Len(), b.Runs(), b.Lines())
		}
		check(t, b, plainOf(n))
		set(t, b, n-1, 3, enable)
		check(t, of(t, n), plainOf(n))
	}
	if bank.Stride != 0x20 || bank.Size != 0x100 {
		t.Error(bank.Stride, bank.Size)
	}
}

// P7.1: Tick goes to each, and Runs and Lines tell each by its bit.
func TestTick(t *testing.T) {
	for n := 1; n <= 8; n++ {
		b, p := of(t, n), plainOf(n)
		for i := range n {
			value, control := uint32(2*i+1), prescale(uint32(i%3))|enable|irq
			if i%2 == 1 {
				control |= reload
			}
			set(t, b, i, value, control)
			p[i].Store(0, value)
			p[i].Store(8, control)
		}
		for _, ticks := range []uint64{0, 1, 1, 3, 0, 2, 7, 20, 1 << 32, 1<<63 + 5, never} {
			check(t, b, p)
			b.Tick(ticks)
			p.tick(ticks)
		}
		check(t, b, p)
	}
}

// P7.1: of all sets of timers that run, and that have expired, the words tell just these.
func TestWords(t *testing.T) {
	for running := range uint32(256) {
		b := of(t, 8)
		for i := range 8 {
			control := uint32(irq)
			if running>>i&1 == 1 {
				control |= enable
			}
			set(t, b, i, 2, control)
		}
		if b.Runs() != running || b.Lines() != 0 {
			t.Fatal(running, b.Runs(), b.Lines())
		}
		b.Tick(1)
		if b.Runs() != running || b.Lines() != 0 {
			t.Fatal(running, b.Runs(), b.Lines())
		}
		b.Tick(1)
		if b.Runs() != 0 || b.Lines() != running {
			t.Fatal(running, b.Runs(), b.Lines())
		}
	}
}

// P7.1: a line is the timer's, not whether it runs or has expired.
func TestLinesAreTimersLines(t *testing.T) {
	b := of(t, 3)
	set(t, b, 0, 4, enable|reload)
	set(t, b, 1, 4, enable|reload|irq)
	set(t, b, 2, 4, enable|irq)
	if b.Tick(4); b.Lines() != 6 || b.Runs() != 3 {
		t.Error(b.Lines(), b.Runs())
	}
	if store(t, b, 0x2c, 1); b.Lines() != 4 || b.Runs() != 3 {
		t.Error(b.Lines(), b.Runs())
	}
	if store(t, b, 0x08, reload|irq); b.Lines() != 5 || b.Runs() != 2 {
		t.Error(b.Lines(), b.Runs())
	}
}

// P7.1: Left: the least of all, and the least timer that has it.
func TestLeft(t *testing.T) {
	for _, x := range []struct {
		loads []uint32 // all 0: the timer doesn't run
		left  uint64
		at    int
	}{
		{[]uint32{0}, never, -1},
		{[]uint32{0, 0, 0}, never, -1},
		{[]uint32{5}, 5, 0},
		{[]uint32{0, 5}, 5, 1},
		{[]uint32{5, 0}, 5, 0},
		{[]uint32{5, 4}, 4, 1},
		{[]uint32{4, 5}, 4, 0},
		{[]uint32{4, 4}, 4, 0},
		{[]uint32{9, 4, 7, 4, 4}, 4, 1},
		{[]uint32{0, 9, 0, 8, 7, 6, 5, 4}, 4, 7},
		{[]uint32{all, all}, all, 0},
		{[]uint32{0, 0, all}, all, 2},
		{[]uint32{all, all, all, all, all, all, all, all - 1}, all - 1, 7},
		{[]uint32{1, 1, 1, 1, 1, 1, 1, 1}, 1, 0},
	} {
		b := of(t, len(x.loads))
		for i, v := range x.loads {
			set(t, b, i, v, min(v, enable))
		}
		if n, i := b.Left(); n != x.left || i != x.at {
			t.Error(x.loads, n, i)
		}
	}
	b := of(t, 2)
	set(t, b, 0, all, prescale(255)|enable)
	if n, i := b.Left(); n != all<<8 || i != 0 {
		t.Error(n, i)
	}
	set(t, b, 1, 100, prescale(9)|enable)
	if n, i := b.Left(); n != 1000 || i != 1 {
		t.Error(n, i)
	}
	if b.Tick(999); b.Runs() != 3 {
		t.Error(b.Runs())
	}
	if n, i := b.Left(); n != 1 || i != 1 {
		t.Error(n, i)
	}
	b.Tick(1)
	if n, i := b.Left(); n != all<<8-1000 || i != 0 {
		t.Error(n, i)
	}
}

// P7.3: behind Left ticks that timer has expired, and none has ahead of it.
func TestBehindLeft(t *testing.T) {
	seed := uint64(7)
	draw := func(below uint32) uint32 {
		seed = next(seed)
		return uint32(seed>>32) % below
	}
	for range 300 {
		b := of(t, 1+int(draw(8)))
		for i := range b.Len() {
			set(t, b, i, draw(12), prescale(draw(4))|enable|reload|irq)
		}
		for range 12 {
			left, at := b.Left()
			if at < 0 {
				if b.Runs() != 0 || left != never {
					t.Fatal(b.Runs(), left)
				}
				break
			}
			for i := range b.Len() {
				store(t, b, 32*uint32(i)+12, 1)
			}
			if b.Tick(left - 1); b.Lines() != 0 {
				t.Fatal(left, at, b.Lines())
			}
			if b.Tick(1); b.Lines()>>at&1 != 1 || b.Lines()&(1<<at-1) != 0 {
				t.Fatal(left, at, b.Lines())
			}
		}
	}
}

// P7.1: Timer: a copy, nil where there is none.
func TestTimer(t *testing.T) {
	for n := 1; n <= 8; n++ {
		b := of(t, n)
		for _, i := range []int{-1 << 63, -1 << 32, -8, -1, n, n + 1, 8, 9, 1 << 32, 1<<63 - 1} {
			if b.Timer(i) != nil {
				t.Error(n, i)
			}
		}
		for i := range n {
			set(t, b, i, uint32(10+i), prescale(1)|enable|irq)
		}
		b.Tick(3)
		for i := range n {
			c := b.Timer(i)
			if got := registers(c); got != [4]uint32{uint32(10 + i), uint32(9 + i), prescale(1) | enable | irq, 0} {
				t.Error(n, i, got)
			}
			other := b.Timer(i)
			if c.Tick(100); !c.Line() || b.Lines() != 0 || !b.Timer(i).Runs() || !same(b.Timer(i), other) {
				t.Error(n, i, b.Lines())
			}
			if c.Store(0, 77); load(t, b, 32*uint32(i)) != uint32(10+i) {
				t.Error(n, i)
			}
			before := registers(other)
			if store(t, b, 32*uint32(i), 66); registers(other) != before {
				t.Error(n, i)
			}
		}
	}
}

// P7.1: Reset: of each, from any state; as many stay.
func TestReset(t *testing.T) {
	for n := 1; n <= 8; n++ {
		for _, ticks := range []uint64{0, 1, 5, 6, 1 << 40} {
			b := of(t, n)
			for i := range n {
				set(t, b, i, uint32(i+2), prescale(uint32(i))|enable|irq|reload)
			}
			b.Tick(ticks)
			b.Reset()
			check(t, b, plainOf(n))
			b.Tick(ticks)
			check(t, b, plainOf(n))
			set(t, b, n-1, 4, enable)
			if left, i := b.Left(); left != 4 || i != n-1 {
				t.Error(n, left, i)
			}
		}
	}
}

// P7.1: Copy is the same, and what is done to one isn't told of the other.
func TestCopy(t *testing.T) {
	for n := 1; n <= 8; n++ {
		b, p := of(t, n), plainOf(n)
		for i := range n {
			set(t, b, i, uint32(i+3), prescale(uint32(i%2))|enable|irq|reload)
			p.store(uint32(32*i), uint32(i+3))
			p.store(uint32(32*i+8), prescale(uint32(i%2))|enable|irq|reload)
		}
		b.Tick(4)
		p.tick(4)
		c, q := b.Copy(), p.copied()
		if c == b {
			t.Fatal("the very")
		}
		check(t, c, q)
		b.Tick(5)
		p.tick(5)
		check(t, b, p)
		check(t, c, q)
		for i := range n {
			set(t, c, i, 50, enable)
			q.store(uint32(32*i), 50)
			q.store(uint32(32*i+8), enable)
			check(t, b, p)
			check(t, c, q)
		}
		c.Copy().Copy().Reset()
		check(t, c, q)
		b.Reset()
		check(t, c, q)
		c.Tick(9)
		q.tick(9)
		check(t, c, q)
		check(t, b, plainOf(n))
	}
}

// P7.2: each timer's registers at its place, and errors of all other offsets, in their order.
func TestOffsets(t *testing.T) {
	for n := 1; n <= 8; n++ {
		b, p := of(t, n), plainOf(n)
		for i := range n {
			set(t, b, i, uint32(100+i), prescale(uint32(i))|enable|irq)
			p[i].Store(0, uint32(100+i))
			p[i].Store(8, prescale(uint32(i))|enable|irq)
		}
		b.Tick(13)
		p.tick(13)
		for _, off := range offsets() {
			v, e := b.Load(off)
			if w, f := p.load(off); v != w || e != f {
				t.Fatalf("%d: load %x: %d %d, not %d %d", n, off, v, e, w, f)
			}
			if e, f := b.Store(off, off), p.store(off, off); e != f {
				t.Fatalf("%d: store %x: %d, not %d", n, off, e, f)
			}
			check(t, b, p)
		}
	}
}

// P7.2: what each error is of, told by itself.
func TestErrors(t *testing.T) {
	b := of(t, 2)
	set(t, b, 0, 9, enable|irq)
	set(t, b, 1, 8, enable|irq)
	b.Tick(3)
	kept := b.Copy()
	for _, x := range []struct {
		off         uint32
		load, store api.Errno
	}{
		{0x01, api.ErrAlign, api.ErrAlign},
		{0x22, api.ErrAlign, api.ErrAlign},
		{0x43, api.ErrAlign, api.ErrAlign},
		{0x101, api.ErrAlign, api.ErrAlign},
		{all, api.ErrAlign, api.ErrAlign},
		{0x10, api.ErrBus, api.ErrBus},
		{0x1c, api.ErrBus, api.ErrBus},
		{0x30, api.ErrBus, api.ErrBus},
		{0x3c, api.ErrBus, api.ErrBus},
		{0x40, api.ErrBus, api.ErrBus},
		{0x48, api.ErrBus, api.ErrBus},
		{0xe0, api.ErrBus, api.ErrBus},
		{0x100, api.ErrBus, api.ErrBus},
		{1 << 31, api.ErrBus, api.ErrBus},
		{all - 3, api.ErrBus, api.ErrBus},
		{0x04, api.OK, api.ErrRead},
		{0x24, api.OK, api.ErrRead},
	} {
		if v, e := b.Load(x.off); e != x.load || e != api.OK && v != 0 {
			t.Errorf("load %x: %d %d", x.off, v, e)
		}
		if e := b.Store(x.off, all); e != x.store {
			t.Errorf("store %x: %d", x.off, e)
		}
		check(t, b, plain{kept.Timer(0), kept.Timer(1)})
	}
}

// P7.3: a timer's registers change by its own stores alone.
func TestStoresOfOthers(t *testing.T) {
	for i := range 8 {
		b := of(t, 8)
		for j := range 8 {
			set(t, b, j, uint32(20+j), prescale(2)|enable|irq|reload)
		}
		b.Tick(200)
		p := plainOf(8)
		for j := range 8 {
			p[j] = b.Timer(j)
		}
		for r, v := range []uint32{7, 0, prescale(1) | reload, 1} {
			want := api.OK
			if r == 1 {
				want = api.ErrRead
			}
			if e := b.Store(uint32(32*i+4*r), v); e != want {
				t.Fatal(i, r, e)
			}
			if want == api.OK {
				p[i].Store(uint32(4*r), v)
			}
			check(t, b, p)
		}
		if b.Runs() != 0xff&^(1<<i) || b.Lines() != 0xff&^(1<<i) {
			t.Error(i, b.Runs(), b.Lines())
		}
	}
}

// The chapter's example.
func TestExample(t *testing.T) {
	b := of(t, 2)
	store(t, b, 0x28, 1)
	if n, i := b.Left(); n != 1 || i != 1 || b.Runs() != 2 {
		t.Error(n, i, b.Runs())
	}
	b.Tick(1)
	if n, i := b.Left(); n != never || i != -1 || b.Runs() != 0 || load(t, b, 0x2c) != 1 {
		t.Error(n, i, b.Runs())
	}
}

// P7.3: a nil bank, whose answer is ahead of that of a misaligned offset.
func TestNilBank(t *testing.T) {
	var b *bank.Bank
	b.Tick(0)
	b.Tick(never)
	b.Reset()
	if b.Len() != 0 || b.Lines() != 0 || b.Runs() != 0 || b.Copy() != nil {
		t.Error(b.Len(), b.Lines(), b.Runs(), b.Copy())
	}
	if n, i := b.Left(); n != never || i != -1 {
		t.Error(n, i)
	}
	for _, i := range []int{-1 << 63, -1, 0, 1, 7, 8, 1<<63 - 1} {
		if b.Timer(i) != nil {
			t.Error(i)
		}
	}
	for _, off := range offsets() {
		if v, e := b.Load(off); v != 0 || e != api.ErrBus {
			t.Error(off, v, e)
		}
		if e := b.Store(off, all); e != api.ErrBus {
			t.Error(off, e)
		}
	}
}

// A bank is a device (3), and its room holds the registers of as many timers as there may be.
func TestOnABus(t *testing.T) {
	b, u := of(t, 8), bus.New()
	const base = 0x10010000
	if e := u.Attach(bus.Region{Base: base, Size: bank.Size}, b); e != api.OK {
		t.Fatal(e)
	}
	last := uint32(base + 7*bank.Stride)
	if u.Store(last, 2) != api.OK || u.Store(last+8, enable|irq) != api.OK || u.Store(last+4, 0) != api.ErrRead || u.Store(last+16, 0) != api.ErrBus || u.Store(last+bank.Stride, 0) != api.ErrBus {
		t.Error("store")
	}
	if b.Tick(2); b.Lines() != 0x80 {
		t.Error(b.Lines())
	}
	if v, e := u.Load(last + 12); v != 1 || e != api.OK {
		t.Error(v, e)
	}
}

// step does the same to a bank and to a plain one, and tells both answers.
func step(b *bank.Bank, p plain, kind, x, y uint32) (answer, want api.Errno) {
	at := 32 * (x >> 8 % uint32(len(p)))
	switch kind {
	case 0, 1:
		n := uint64(y % 40)
		b.Tick(n)
		p.tick(n)
	case 2:
		if left, i := b.Left(); i >= 0 {
			b.Tick(left)
			p.tick(left)
		}
	case 3:
		return b.Store(at, x%6), p.store(at, x%6)
	case 4, 5:
		v := y&^0xff00 | x%4<<8
		return b.Store(at+8, v), p.store(at+8, v)
	case 6:
		return b.Store(at+12, y), p.store(at+12, y)
	case 7:
		off := x % 0x130
		return b.Store(off, y%6), p.store(off, y%6)
	case 8:
		if x%8 == 0 {
			b.Reset()
			p.reset()
		}
	}
	return api.OK, api.OK
}

// P7.1 to P7.3, P1, P2: banks tell what plain ones do, call by call, also their copies, and the same again.
func TestBanksArePlainOnes(t *testing.T) {
	seed := uint64(70)
	draw := func() uint32 {
		seed = next(seed)
		return uint32(seed >> 32)
	}
	for round := range 48 {
		n := 1 + round%8
		b, again, p := of(t, n), of(t, n), plainOf(n)
		for range 250 {
			kind, x, y := draw()%10, draw(), draw()
			if kind == 9 {
				left, kept := b, p.copied()
				b = b.Copy()
				step(left, p, x%9, y, x)
				check(t, left, p)
				p = kept
			}
			forgotten := p.copied()
			answer, want := step(b, p, kind, x, y)
			if answer != want {
				t.Fatal(kind, x, y, answer, want)
			}
			if answer, _ := step(again, forgotten, kind, x, y); answer != want {
				t.Fatal(kind, x, y, answer, want)
			}
			check(t, b, p)
			check(t, again, p)
		}
	}
}
