package clint_test

import (
	"math"
	"testing"

	"minuterie/api"
	"minuterie/bus"
	"minuterie/clint"
)

const (
	all   = 1<<32 - 1
	never = uint64(1<<64 - 1)
)

func next(n uint64) uint64 { return n*6364136223846793005 + 1442695040888963407 }

// times are those at which something turns over, and some without a rule.
func times() []uint64 {
	l := []uint64{0, 1, 2, 3, 4, 5, 10, all - 1, all, 1 << 32, 1<<32 + 1, 1<<32 + 10, 2<<32 - 1, 2 << 32, 1<<63 - 1, 1 << 63, 1<<63 + 1, all << 32, never - 2, never - 1, never, 0x0123456789abcdef, 0xfedcba9876543210}
	n := uint64(5)
	for range 6 {
		n = next(n)
		l = append(l, n)
	}
	return l
}

func words() []uint32 {
	l := []uint32{0, 1, 2, 3, 4, 0x7fffffff, 1 << 31, 1<<31 + 1, 0x55555555, 0xaaaaaaaa, 0xdeadbeef, all - 1, all}
	n := uint64(6)
	for range 6 {
		n = next(n)
		l = append(l, uint32(n>>32))
	}
	return l
}

// wrongHarts are numbers of no hart, however many there are.
func wrongHarts() []int {
	return []int{-1, -2, -8, -9, 8, 9, 16, 31, 32, 64, 0x4000, 1 << 31, 1 << 32, 1<<32 + 1, 1 << 61, 1<<61 + 1, math.MaxInt, math.MinInt, math.MinInt + 1}
}

// offsets are all of the registers' room, and those far away.
func offsets() []uint32 {
	var l []uint32
	for _, from := range []uint32{0, 0x3ff0, 0x4030, 0x7ff8, 0xbfe0, 0xffe0, 0x13ff8, 0x1bff0, 1<<31 - 8, 1<<31 + 0x4000, all - 47} {
		for i := range uint32(48) {
			l = append(l, from+i)
		}
	}
	return append(l, 0x5000, 0x8000, 0xb000, 0x14000, 1<<16|0xbff8, 1<<31|0xbffc)
}

// plain is a clint as the document's words tell it: each register is a word by its offset, of which the time's are put together anew.
type plain struct {
	harts int
	time  uint64
	words map[uint32]uint32
}

func newPlain(harts int) *plain {
	p := &plain{harts: harts, words: map[uint32]uint32{}}
	p.reset()
	return p
}

func (p *plain) reset() {
	for hart := range uint32(p.harts) {
		p.words[4*hart] = 0
		p.words[0x4000+8*hart] = all
		p.words[0x4000+8*hart+4] = all
	}
	p.setTime(p.time)
}

func (p *plain) setTime(time uint64) {
	p.time = time
	p.words[0xbff8] = uint32(time % (1 << 32))
	p.words[0xbffc] = uint32(time / (1 << 32))
}

func (p *plain) tick(n uint64) {
	left := never - p.time
	p.setTime(p.time + min(n, left))
}

func (p *plain) compare(hart int) uint64 {
	if hart < 0 || hart >= p.harts {
		return never
	}
	at := 0x4000 + 8*uint32(hart)
	return uint64(p.words[at]) + (1<<32)*uint64(p.words[at+4])
}

func (p *plain) line(hart int) bool {
	return hart >= 0 && hart < p.harts && p.time >= p.compare(hart)
}

func (p *plain) soft(hart int) bool {
	return hart >= 0 && hart < p.harts && p.words[4*uint32(hart)] == 1
}

func (p *plain) load(off uint32) (uint32, api.Errno) {
	if off%4 != 0 {
		return 0, api.ErrAlign
	}
	v, there := p.words[off]
	if !there {
		return 0, api.ErrBus
	}
	return v, api.OK
}

func (p *plain) store(off, v uint32) api.Errno {
	_, e := p.load(off)
	switch {
	case e != api.OK:
		return e
	case off == 0xbff8 || off == 0xbffc:
		return api.ErrRead
	case off < 0x4000:
		v %= 2
	}
	p.words[off] = v
	return api.OK
}

func (p *plain) copy() *plain {
	c := newPlain(p.harts)
	for off, v := range p.words {
		c.words[off] = v
	}
	c.time = p.time
	return c
}

func made(t *testing.T, harts int) *clint.Clint {
	t.Helper()
	c, e := clint.New(harts)
	if c == nil || e != api.OK {
		t.Fatal(harts, e)
	}
	return c
}

// set: a hart's comparator, by both words.
func set(t *testing.T, c *clint.Clint, hart int, at uint64) {
	t.Helper()
	off := clint.Compares + 8*uint32(hart)
	if c.Store(off, uint32(at)) != api.OK || c.Store(off+4, uint32(at>>32)) != api.OK {
		t.Fatal(hart, at)
	}
}

// check: a clint tells what a plain one does, whatever it is asked.
func check(t *testing.T, c *clint.Clint, p *plain) {
	t.Helper()
	if c.Harts() != p.harts || c.Time() != p.time {
		t.Fatal(c.Harts(), p.harts, c.Time(), p.time)
	}
	for _, hart := range append(wrongHarts(), 0, 1, 2, 3, 4, 5, 6, 7) {
		if c.Compare(hart) != p.compare(hart) || c.Line(hart) != p.line(hart) || c.Soft(hart) != p.soft(hart) {
			t.Fatal(hart, c.Compare(hart), p.compare(hart), c.Line(hart), p.line(hart), c.Soft(hart), p.soft(hart))
		}
	}
	for _, off := range offsets() {
		want, wantError := p.load(off)
		if v, e := c.Load(off); v != want || e != wantError {
			t.Fatalf("load %x: %d %d, not %d %d", off, v, e, want, wantError)
		}
	}
}

// The registers' places are those of the chapter.
func TestPlaces(t *testing.T) {
	if clint.Bits != 0 || clint.Compares != 0x4000 || clint.Times != 0xbff8 || clint.Size != 0xc000 {
		t.Error(clint.Bits, clint.Compares, clint.Times, clint.Size)
	}
}

// P5.1: New, of each number of harts.
func TestNew(t *testing.T) {
	for harts := 1; harts <= 8; harts++ {
		c := made(t, harts)
		check(t, c, newPlain(harts))
		for hart := range 8 {
			if c.Compare(hart) != never || c.Line(hart) || c.Soft(hart) {
				t.Error(harts, hart)
			}
		}
	}
}

// P5.1: New of a wrong number of harts.
func TestNewErrors(t *testing.T) {
	for _, harts := range []int{0, 9, 10, 16, 64, 1 << 32, 1<<32 + 1, -1, -8, -1<<32 + 1, math.MaxInt, math.MinInt} {
		if c, e := clint.New(harts); c != nil || e != api.ErrRange {
			t.Error(harts, e)
		}
	}
}

// P5.1: Tick goes to Never and stays there.
func TestTick(t *testing.T) {
	for _, a := range times() {
		for _, b := range times() {
			c := made(t, 1)
			c.Tick(a)
			if c.Time() != a {
				t.Fatal(a, c.Time())
			}
			want := a + b
			if want < a {
				want = never
			}
			if c.Tick(b); c.Time() != want {
				t.Fatal(a, b, c.Time(), want)
			}
		}
	}
	c := made(t, 1)
	for _, n := range []uint64{never, 0, 1, never, 1 << 63} {
		if c.Tick(n); c.Time() != never {
			t.Error(n, c.Time())
		}
	}
}

// P5.3: ticks in two calls are as in one.
func TestTicksTogether(t *testing.T) {
	for _, from := range times() {
		for _, a := range times() {
			for _, b := range times() {
				if b > never-a {
					continue
				}
				one, two := made(t, 1), made(t, 1)
				for _, c := range []*clint.Clint{one, two} {
					set(t, c, 0, a)
					c.Tick(from)
				}
				one.Tick(a + b)
				two.Tick(a)
				two.Tick(b)
				if one.Time() != two.Time() || one.Line(0) != two.Line(0) {
					t.Fatal(from, a, b, one.Time(), two.Time())
				}
			}
		}
	}
}

// P5.1, P5.3: a hart's line is high just from its comparator on, and no other's.
func TestLine(t *testing.T) {
	for harts := 1; harts <= 8; harts++ {
		for hart := range harts {
			for _, at := range times() {
				for _, now := range times() {
					c := made(t, harts)
					set(t, c, hart, at)
					c.Tick(now)
					for other := range harts {
						want := now == never || other == hart && now >= at
						if c.Line(other) != want {
							t.Fatal(harts, hart, other, at, now, c.Line(other))
						}
					}
				}
			}
		}
	}
}

// P5.3: tick by tick around a comparator, which may also be set later on.
func TestLineTickByTick(t *testing.T) {
	for _, at := range []uint64{2, 1<<32 + 1, 1<<63 + 2, never - 2} {
		c := made(t, 2)
		set(t, c, 1, at)
		c.Tick(at - 2)
		for now := at - 2; now <= at+2 && now >= at-2; now++ {
			if c.Time() != now || c.Line(1) != (now >= at) || c.Line(0) != (now == never) {
				t.Error(at, now, c.Time(), c.Line(1))
			}
			c.Tick(1)
		}
	}
	c := made(t, 1)
	c.Tick(100)
	for _, x := range []struct {
		at   uint64
		high bool
	}{{101, false}, {100, true}, {99, true}, {0, true}, {1 << 32, false}, {never, false}} {
		if set(t, c, 0, x.at); c.Line(0) != x.high || c.Compare(0) != x.at {
			t.Error(x, c.Line(0), c.Compare(0))
		}
	}
}

// P5.1: what is told of no hart, also where all harts' lines are high.
func TestNoHart(t *testing.T) {
	for harts := 1; harts <= 8; harts++ {
		c := made(t, harts)
		for hart := range harts {
			set(t, c, hart, 0)
			if c.Store(4*uint32(hart), 1) != api.OK {
				t.Fatal(harts, hart)
			}
		}
		for _, now := range []uint64{0, 1, never} {
			c.Tick(now)
			for hart := range 8 {
				wrong := hart >= harts
				if c.Line(hart) == wrong || c.Soft(hart) == wrong || (c.Compare(hart) == never) != wrong {
					t.Error(harts, hart)
				}
			}
			for _, hart := range wrongHarts() {
				if c.Line(hart) || c.Soft(hart) || c.Compare(hart) != never {
					t.Error(harts, hart)
				}
			}
		}
	}
}

// P5.2: of a hart's bit bit 0 alone counts, and no other hart's changes.
func TestSoft(t *testing.T) {
	for hart := range 8 {
		for _, ahead := range words() {
			for _, v := range words() {
				c, off := made(t, 8), 4*uint32(hart)
				if c.Store(off, ahead) != api.OK || c.Store(off, v) != api.OK {
					t.Fatal(hart, ahead, v)
				}
				if got, e := c.Load(off); got != v%2 || e != api.OK || c.Soft(hart) != (v%2 == 1) {
					t.Fatal(hart, ahead, v, got, e)
				}
				for other := range 8 {
					if other != hart && c.Soft(other) || c.Line(other) || c.Compare(other) != never {
						t.Fatal(hart, other)
					}
				}
			}
		}
	}
}

// P5.2: a word of a comparator is written, the other one stays.
func TestCompareWords(t *testing.T) {
	for hart := range 8 {
		lower := uint32(0x4000 + 8*hart)
		for _, lo := range words() {
			for _, hi := range words() {
				c := made(t, 8)
				if c.Store(lower, lo) != api.OK || c.Compare(hart) != all<<32+uint64(lo) {
					t.Fatal(hart, lo, c.Compare(hart))
				}
				if c.Store(lower+4, hi) != api.OK || c.Compare(hart) != uint64(hi)<<32+uint64(lo) {
					t.Fatal(hart, lo, hi, c.Compare(hart))
				}
				if c.Store(lower, 7) != api.OK || c.Compare(hart) != uint64(hi)<<32+7 {
					t.Fatal(hart, hi, c.Compare(hart))
				}
				if v, e := c.Load(lower); v != 7 || e != api.OK {
					t.Fatal(hart, v, e)
				}
				if v, e := c.Load(lower + 4); v != hi || e != api.OK {
					t.Fatal(hart, v, e)
				}
				for other := range 8 {
					if other != hart && c.Compare(other) != never || c.Soft(other) {
						t.Fatal(hart, other, c.Compare(other))
					}
				}
			}
		}
	}
}

// P5.2: the time's words are told, and not written.
func TestTimeWords(t *testing.T) {
	for _, now := range times() {
		c := made(t, 1)
		c.Tick(now)
		for _, x := range []struct{ off, want uint32 }{{0xbff8, uint32(now)}, {0xbffc, uint32(now >> 32)}} {
			for _, v := range words() {
				if e := c.Store(x.off, v); e != api.ErrRead {
					t.Fatal(now, x.off, e)
				}
			}
			if v, e := c.Load(x.off); v != x.want || e != api.OK {
				t.Fatal(now, x.off, v, e)
			}
		}
		if c.Time() != now {
			t.Fatal(now, c.Time())
		}
	}
}

// P5.2: errors of Load and Store, in their order, of each number of harts; what is refused changes nothing.
func TestErrors(t *testing.T) {
	for harts := 1; harts <= 8; harts++ {
		c, p := made(t, harts), newPlain(harts)
		c.Tick(1<<32 + 7)
		p.tick(1<<32 + 7)
		for _, off := range offsets() {
			e := p.store(off, 1)
			if e == api.OK {
				c.Store(off, 1)
				continue
			}
			for _, v := range []uint32{0, 1, all} {
				if got := c.Store(off, v); got != e {
					t.Fatalf("%x: %d, not %d", off, got, e)
				}
			}
		}
		check(t, c, p)
	}
	c := made(t, 3)
	for _, x := range []struct {
		off         uint32
		load, store api.Errno
	}{
		{0, api.OK, api.OK}, {8, api.OK, api.OK}, {12, api.ErrBus, api.ErrBus}, {28, api.ErrBus, api.ErrBus}, {32, api.ErrBus, api.ErrBus}, {13, api.ErrAlign, api.ErrAlign},
		{0x3ffc, api.ErrBus, api.ErrBus}, {0x4000, api.OK, api.OK}, {0x4014, api.OK, api.OK}, {0x4018, api.ErrBus, api.ErrBus}, {0x401c, api.ErrBus, api.ErrBus}, {0x4040, api.ErrBus, api.ErrBus}, {0x4019, api.ErrAlign, api.ErrAlign},
		{0xbff4, api.ErrBus, api.ErrBus}, {0xbff8, api.OK, api.ErrRead}, {0xbff9, api.ErrAlign, api.ErrAlign}, {0xbffc, api.OK, api.ErrRead}, {0xbffe, api.ErrAlign, api.ErrAlign}, {0xc000, api.ErrBus, api.ErrBus},
		{0x10000, api.ErrBus, api.ErrBus}, {0x14000, api.ErrBus, api.ErrBus}, {0x1bff8, api.ErrBus, api.ErrBus}, {all - 3, api.ErrBus, api.ErrBus}, {all, api.ErrAlign, api.ErrAlign},
	} {
		if v, e := c.Load(x.off); e != x.load || e != api.OK && v != 0 {
			t.Errorf("load %x: %d %d", x.off, v, e)
		}
		if e := c.Store(x.off, 1); e != x.store {
			t.Errorf("store %x: %d", x.off, e)
		}
	}
}

// P5.1: Reset: comparators are Never, bits 0; the time goes on.
func TestReset(t *testing.T) {
	for harts := 1; harts <= 8; harts++ {
		c, p := made(t, harts), newPlain(harts)
		for hart := range harts {
			set(t, c, hart, uint64(hart)<<33+1)
			if c.Store(4*uint32(hart), 1) != api.OK {
				t.Fatal(harts, hart)
			}
		}
		c.Tick(1<<40 + 3)
		p.tick(1<<40 + 3)
		c.Reset()
		check(t, c, p)
		c.Reset()
		check(t, c, p)
		c.Tick(5)
		p.tick(5)
		check(t, c, p)
		c.Tick(never)
		c.Reset()
		for hart := range harts {
			if c.Time() != never || !c.Line(hart) || c.Soft(hart) {
				t.Error(harts, hart, c.Time())
			}
		}
	}
}

// P5.1: Copy is the same, and what is done to one isn't told of the other.
func TestCopy(t *testing.T) {
	for harts := 1; harts <= 8; harts++ {
		c, p := made(t, harts), newPlain(harts)
		change := func(c *clint.Clint, p *plain, by uint32) {
			for hart := range uint32(harts) {
				for _, off := range []uint32{4 * hart, 0x4000 + 8*hart, 0x4004 + 8*hart} {
					if c.Store(off, off*by+by) != p.store(off, off*by+by) {
						t.Fatal(harts, off)
					}
				}
			}
			c.Tick(uint64(by) << 20)
			p.tick(uint64(by) << 20)
		}
		change(c, p, 3)
		d, q := c.Copy(), p.copy()
		if d == c {
			t.Fatal("the very")
		}
		check(t, d, q)
		change(c, p, 8)
		check(t, d, q)
		change(d, q, 5)
		check(t, c, p)
		check(t, d, q)
		c.Reset()
		p.reset()
		check(t, c, p)
		check(t, d, q)
		again := d.Copy().Copy()
		again.Reset()
		again.Tick(never)
		check(t, d, q)
	}
}

// The chapter's example.
func TestExample(t *testing.T) {
	c := made(t, 1)
	if c.Store(clint.Compares, 4) != api.OK || c.Store(clint.Compares+4, 0) != api.OK {
		t.Fatal("store")
	}
	if c.Tick(3); c.Time() != 3 || c.Line(0) {
		t.Error(c.Time(), c.Line(0))
	}
	if c.Tick(1); c.Time() != 4 || !c.Line(0) {
		t.Error(c.Time(), c.Line(0))
	}
}

// P5.3: a nil clint, whose answer is ahead of that of a misaligned offset.
func TestNilClint(t *testing.T) {
	var c *clint.Clint
	for _, n := range times() {
		c.Tick(n)
	}
	c.Reset()
	if c.Harts() != 0 || c.Time() != 0 || c.Copy() != nil {
		t.Error(c.Harts(), c.Time(), c.Copy())
	}
	for _, hart := range append(wrongHarts(), 0, 1, 7) {
		if c.Compare(hart) != never || c.Line(hart) || c.Soft(hart) {
			t.Error(hart, c.Compare(hart), c.Line(hart), c.Soft(hart))
		}
	}
	for _, off := range offsets() {
		if v, e := c.Load(off); v != 0 || e != api.ErrBus {
			t.Error(off, v, e)
		}
		if e := c.Store(off, all); e != api.ErrBus {
			t.Error(off, e)
		}
	}
}

// A clint is a device (3), and its room holds all its registers.
func TestOnABus(t *testing.T) {
	c, b := made(t, 8), bus.New()
	const base = 0x02000000
	if e := b.Attach(bus.Region{Base: base, Size: clint.Size}, c); e != api.OK {
		t.Fatal(e)
	}
	c.Tick(9<<32 + 1)
	if b.Store(base+0x4038, 2) != api.OK || b.Store(base+0x403c, 9) != api.OK || b.Store(base+28, 1) != api.OK {
		t.Error("store")
	}
	if b.Store(base+0xbffc, 1) != api.ErrRead || b.Store(base+0xc000, 1) != api.ErrBus || b.Store(base+0x4040, 1) != api.ErrBus {
		t.Error("store")
	}
	if v, e := b.Load(base + 0xbffc); v != 9 || e != api.OK || c.Line(7) || !c.Soft(7) {
		t.Error(v, e, c.Compare(7))
	}
	if c.Tick(1); !c.Line(7) {
		t.Error("low")
	}
}

// step does the same to a clint and to a plain one, and tells both answers.
func step(c *clint.Clint, p *plain, kind, a, b uint32) (answer, want api.Errno) {
	switch kind {
	case 0, 1, 2:
		off := 0x4000 + 4*(a%18)
		return c.Store(off, b%4), p.store(off, b%4)
	case 3:
		off := 4 * (a % 10)
		return c.Store(off, b), p.store(off, b)
	case 4:
		off := 0xbff0 + a%20
		return c.Store(off, b), p.store(off, b)
	case 5:
		n := uint64(a%3)<<32 + uint64(b%4)
		c.Tick(n)
		p.tick(n)
	case 6:
		if a%40 == 0 {
			c.Reset()
			p.reset()
		}
		c.Tick(uint64(b % 4))
		p.tick(uint64(b % 4))
	}
	return api.OK, api.OK
}

// P5.1 to P5.3, P1, P2: clints tell what plain ones do, call by call, also their copies, and the same again.
func TestClintsArePlainOnes(t *testing.T) {
	n := uint64(55)
	draw := func() uint32 {
		n = next(n)
		return uint32(n >> 32)
	}
	for round := range 16 {
		harts := 1 + round%8
		c, again, p := made(t, harts), made(t, harts), newPlain(harts)
		for range 150 {
			kind, a, b := draw()%8, draw(), draw()
			if kind == 7 {
				left, kept := c, p.copy()
				c = c.Copy()
				step(left, p, a%7, b, a)
				check(t, left, p)
				p = kept
			}
			answer, want := step(c, p, kind, a, b)
			if answer != want {
				t.Fatal(kind, a, b, answer, want)
			}
			if answer, _ := step(again, p.copy(), kind, a, b); answer != want {
				t.Fatal(kind, a, b, answer, want)
			}
			check(t, c, p)
			check(t, again, p)
		}
	}
}
