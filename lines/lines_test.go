package lines_test

import (
	"math"
	"testing"

	"minuterie/api"
	"minuterie/bus"
	"minuterie/lines"
)

const all = 1<<32 - 1

// words are those at which something turns over, each single line, and some without a rule.
func words() []uint32 {
	l := []uint32{0, 3, 5, 12, 0x7fffffff, 0xffff0000, 0x0000ffff, 0x55555555, 0xaaaaaaaa, 0xdeadbeef, 0x80000001, all - 1, all}
	for line := range 32 {
		l = append(l, 1<<line)
	}
	n := uint64(4)
	for range 12 {
		n = next(n)
		l = append(l, uint32(n>>32))
	}
	return l
}

func next(n uint64) uint64 { return n*6364136223846793005 + 1442695040888963407 }

// noLines are numbers of no line.
func noLines() []int {
	return []int{-1, -2, -31, -32, -33, 32, 33, 63, 64, 1 << 31, 1 << 32, 1<<32 + 1, math.MaxInt, math.MinInt}
}

// plain is a controller as the document's words tell it, line by line.
type plain struct{ high, mask map[int]bool }

func newPlain() *plain { return &plain{map[int]bool{}, map[int]bool{}} }

func isLine(line int) bool { return line >= 0 && line <= 31 }

func (p *plain) set(line int, high bool) bool {
	if isLine(line) {
		p.high[line] = high
	}
	return isLine(line)
}

func (p *plain) all(high uint32) { spread(p.high, high) }

func spread(to map[int]bool, word uint32) {
	for line := range 32 {
		to[line] = word/uint32(math.Pow(2, float64(line)))%2 == 1
	}
}

func together(is func(line int) bool) uint32 {
	word := uint32(0)
	for line := range 32 {
		if is(line) {
			word += uint32(math.Pow(2, float64(line)))
		}
	}
	return word
}

func (p *plain) both(line int) bool { return p.high[line] && p.mask[line] }

func (p *plain) least() int {
	for line := range 32 {
		if p.both(line) {
			return line
		}
	}
	return -1
}

func (p *plain) load(off uint32) (uint32, api.Errno) {
	switch {
	case off%4 != 0:
		return 0, api.ErrAlign
	case off == 0:
		return together(func(line int) bool { return p.high[line] }), api.OK
	case off == 4:
		return together(func(line int) bool { return p.mask[line] }), api.OK
	case off == 8:
		return together(p.both), api.OK
	}
	return 0, api.ErrBus
}

func (p *plain) store(off, v uint32) api.Errno {
	_, e := p.load(off)
	switch {
	case e != api.OK:
		return e
	case off != 4:
		return api.ErrRead
	}
	spread(p.mask, v)
	return api.OK
}

func (p *plain) reset() { spread(p.mask, 0) }

func (p *plain) copy() *plain {
	c := newPlain()
	for line := range 32 {
		c.high[line], c.mask[line] = p.high[line], p.mask[line]
	}
	return c
}

// offsets are the registers', those beside them, and those far away.
func offsets() []uint32 {
	var l []uint32
	for off := range uint32(24) {
		l = append(l, off)
	}
	for _, off := range []uint32{0x20, 0x40, 0x100, 0x104, 0x108, 1 << 16, 1<<16 + 4, 1 << 31, 1<<31 + 4, all, all - 1, all - 2, all - 3, all - 7, all - 11} {
		l = append(l, off)
	}
	return l
}

// check: a controller tells what a plain one does, whatever it is asked.
func check(t *testing.T, l *lines.Lines, p *plain) {
	t.Helper()
	if high, _ := p.load(0); l.High() != high {
		t.Fatal("high", l.High(), high)
	}
	if l.Least() != p.least() {
		t.Fatal("least", l.Least(), p.least())
	}
	if l.Out() != (p.least() >= 0) {
		t.Fatal("out", l.Out(), p.least())
	}
	for _, off := range offsets() {
		want, wantError := p.load(off)
		if v, e := l.Load(off); v != want || e != wantError {
			t.Fatal("load", off, v, e, want, wantError)
		}
	}
}

// made is a controller of these words, and a plain one.
func made(t *testing.T, high, mask uint32) (*lines.Lines, *plain) {
	t.Helper()
	l, p := lines.New(), newPlain()
	l.All(high)
	p.all(high)
	if l.Store(4, mask) != api.OK || p.store(4, mask) != api.OK {
		t.Fatal("store", mask)
	}
	return l, p
}

// checkWords: the three registers are so.
func checkWords(t *testing.T, l *lines.Lines, high, mask, both uint32) {
	t.Helper()
	for i, want := range []uint32{high, mask, both} {
		if v, e := l.Load(uint32(4 * i)); v != want || e != api.OK {
			t.Error(i, v, e, want)
		}
	}
}

// P4.1: New.
func TestNew(t *testing.T) {
	l := lines.New()
	if l.High() != 0 || l.Out() || l.Least() != -1 {
		t.Error(l.High(), l.Out(), l.Least())
	}
	checkWords(t, l, 0, 0, 0)
	l.All(all)
	if l.Store(4, all) != api.OK {
		t.Error("store")
	}
	checkWords(t, lines.New(), 0, 0, 0)
}

// P4.1: Set, of each line alone, and of one among others.
func TestSet(t *testing.T) {
	for line := range 32 {
		l := lines.New()
		bit := uint32(1) << line
		for _, x := range []struct {
			high bool
			want uint32
		}{{false, 0}, {true, bit}, {true, bit}, {false, 0}, {false, 0}} {
			if !l.Set(line, x.high) || l.High() != x.want {
				t.Error(line, x, l.High())
			}
		}
		l.All(all)
		if !l.Set(line, false) || l.High() != all-bit || !l.Set(line, true) || l.High() != all {
			t.Error(line, l.High())
		}
		checkWords(t, l, all, 0, 0)
	}
}

// P4.1: Set of no line tells false, and does nothing.
func TestSetOfNoLine(t *testing.T) {
	for _, high := range []uint32{0, all, 0x55555555, 0xaaaaaaaa} {
		for _, line := range noLines() {
			l, _ := made(t, high, 0x0ff00ff0)
			if l.Set(line, true) || l.Set(line, false) {
				t.Error(line)
			}
			checkWords(t, l, high, 0x0ff00ff0, high&0x0ff00ff0)
		}
	}
}

// P4.1: All, whatever was ahead of it; the mask stays.
func TestAll(t *testing.T) {
	l := lines.New()
	if l.Store(4, 0x00ffff00) != api.OK {
		t.Error("store")
	}
	for _, ahead := range words() {
		for _, high := range words() {
			l.All(ahead)
			l.All(high)
			if l.High() != high {
				t.Fatal(ahead, high, l.High())
			}
		}
	}
	l.All(0x12345678)
	checkWords(t, l, 0x12345678, 0x00ffff00, 0x00345600)
	for line := range 32 {
		if l.All(1 << line); l.High() != 1<<line {
			t.Error(line, l.High())
		}
	}
}

// P4.1, P4.3: Out and Least, of each line alone, and of two.
func TestOutAndLeast(t *testing.T) {
	for a := range 32 {
		for b := range 32 {
			l := lines.New()
			if l.Set(a, true); l.Out() || l.Least() != -1 {
				t.Error(a, l.Least())
			}
			if l.Store(4, 1<<b) != api.OK || l.Out() != (a == b) || a == b && l.Least() != a || a != b && l.Least() != -1 {
				t.Error(a, b, l.Out(), l.Least())
			}
			if l.Set(b, true); !l.Out() || l.Least() != b {
				t.Error(a, b, l.Out(), l.Least())
			}
			if l.Store(4, 1<<a|1<<b) != api.OK || !l.Out() || l.Least() != min(a, b) {
				t.Error(a, b, l.Out(), l.Least())
			}
			if l.All(0); l.Out() || l.Least() != -1 {
				t.Error(a, b, l.Out(), l.Least())
			}
		}
	}
}

// P4.1 to P4.3: all words of lines and masks.
func TestWords(t *testing.T) {
	for _, high := range words() {
		for _, mask := range words() {
			l, p := made(t, high, mask)
			check(t, l, p)
			checkWords(t, l, high, mask, high&mask)
			if l.Out() != (l.Least() >= 0) || l.Out() != (high&mask != 0) {
				t.Error(high, mask, l.Out(), l.Least())
			}
		}
	}
}

// P4.1: Reset: the mask is 0, lines stay.
func TestReset(t *testing.T) {
	for _, high := range words() {
		l, _ := made(t, high, all)
		l.Reset()
		checkWords(t, l, high, 0, 0)
		if l.Out() || l.Least() != -1 || l.High() != high {
			t.Error(high, l.Out(), l.Least(), l.High())
		}
		if l.Store(4, high) != api.OK || l.Out() != (high != 0) {
			t.Error(high, l.Out())
		}
		l.Reset()
		l.Reset()
		checkWords(t, l, high, 0, 0)
	}
}

// P4.1: Copy is the same, and what is done to one isn't told of the other.
func TestCopy(t *testing.T) {
	l, p := made(t, 0xf0, 0x3c)
	c := l.Copy()
	if c == l {
		t.Fatal("the very")
	}
	check(t, c, p)
	l.Set(0, true)
	l.Store(4, 1)
	check(t, c, p)
	checkWords(t, l, 0xf1, 1, 1)
	c.All(8)
	c.Reset()
	checkWords(t, l, 0xf1, 1, 1)
	checkWords(t, c, 8, 0, 0)
	again := c.Copy().Copy()
	again.Set(31, true)
	checkWords(t, c, 8, 0, 0)
	checkWords(t, again, 1<<31|8, 0, 0)
}

// P4.2: Load's errors, beside which there is 0, in their order.
func TestLoadErrors(t *testing.T) {
	l, _ := made(t, all, all)
	for off := range uint32(12) {
		want, e := uint32(all), api.OK
		if off%4 != 0 {
			want, e = 0, api.ErrAlign
		}
		if v, got := l.Load(off); v != want || got != e {
			t.Error(off, v, got)
		}
	}
	for _, x := range []struct {
		off uint32
		e   api.Errno
	}{
		{12, api.ErrBus}, {16, api.ErrBus}, {0x40, api.ErrBus}, {0x100, api.ErrBus}, {0x104, api.ErrBus}, {1 << 16, api.ErrBus}, {1<<31 + 4, api.ErrBus}, {all - 3, api.ErrBus},
		{13, api.ErrAlign}, {14, api.ErrAlign}, {15, api.ErrAlign}, {18, api.ErrAlign}, {1<<31 + 5, api.ErrAlign}, {all - 2, api.ErrAlign}, {all - 1, api.ErrAlign}, {all, api.ErrAlign},
	} {
		if v, e := l.Load(x.off); v != 0 || e != x.e {
			t.Error(x.off, v, e)
		}
		if e := l.Store(x.off, 5); e != x.e {
			t.Error(x.off, e)
		}
	}
	checkWords(t, l, all, all, all)
}

// P4.2: Store writes all of the mask's bits; what is refused changes nothing.
func TestStore(t *testing.T) {
	l := lines.New()
	l.All(0x00ff00ff)
	for _, ahead := range words() {
		for _, v := range words() {
			if l.Store(4, ahead) != api.OK || l.Store(4, v) != api.OK {
				t.Fatal(ahead, v)
			}
			checkWords(t, l, 0x00ff00ff, v, v&0x00ff00ff)
		}
	}
	if l.Store(4, 0x0ff0) != api.OK {
		t.Error("store")
	}
	for _, off := range offsets() {
		want := api.ErrBus
		switch {
		case off%4 != 0:
			want = api.ErrAlign
		case off == 0 || off == 8:
			want = api.ErrRead
		case off == 4:
			continue
		}
		for _, v := range words() {
			if e := l.Store(off, v); e != want {
				t.Error(off, v, e)
			}
		}
		checkWords(t, l, 0x00ff00ff, 0x0ff0, 0xf0)
	}
}

// The chapter's example.
func TestExample(t *testing.T) {
	l := lines.New()
	if !l.Set(3, true) || l.Out() || l.Least() != -1 {
		t.Error(l.Out(), l.Least())
	}
	if l.Store(4, 8) != api.OK || !l.Out() || l.Least() != 3 {
		t.Error(l.Out(), l.Least())
	}
}

// P4.3: a nil controller, whose answer is ahead of that of a misaligned offset.
func TestNilLines(t *testing.T) {
	var l *lines.Lines
	for _, line := range append(noLines(), 0, 1, 31) {
		if l.Set(line, true) || l.Set(line, false) {
			t.Error(line)
		}
	}
	l.All(all)
	l.Reset()
	if l.High() != 0 || l.Out() || l.Least() != -1 || l.Copy() != nil {
		t.Error(l.High(), l.Out(), l.Least(), l.Copy())
	}
	for _, off := range offsets() {
		if v, e := l.Load(off); v != 0 || e != api.ErrBus {
			t.Error(off, v, e)
		}
		if e := l.Store(off, all); e != api.ErrBus {
			t.Error(off, e)
		}
	}
}

// A controller is a device (3).
func TestOnABus(t *testing.T) {
	l, b := lines.New(), bus.New()
	if e := b.Attach(bus.Region{Base: 0x10050000, Size: 12}, l); e != api.OK {
		t.Fatal(e)
	}
	l.Set(16, true)
	if b.Store(0x10050004, 1<<16) != api.OK || b.Store(0x10050008, 0) != api.ErrRead || b.Store(0x1005000c, 0) != api.ErrBus {
		t.Error("store")
	}
	if v, e := b.Load(0x10050008); v != 1<<16 || e != api.OK || !l.Out() || l.Least() != 16 {
		t.Error(v, e, l.Least())
	}
}

// step does the same to a controller and to a plain one, and tells both answers.
func step(l *lines.Lines, p *plain, kind, a, b uint32) (answer, want int) {
	truth := func(is bool) int {
		if is {
			return 1
		}
		return 0
	}
	switch kind {
	case 0, 1, 2:
		line := int(a%36) - 2
		return truth(l.Set(line, b%2 == 1)), truth(p.set(line, b%2 == 1))
	case 3:
		l.All(a)
		p.all(a)
	case 4, 5:
		return int(l.Store(4, a&b)), int(p.store(4, a&b))
	case 6:
		return int(l.Store(a%20, b)), int(p.store(a%20, b))
	case 7:
		l.Reset()
		p.reset()
	}
	return 0, 0
}

// P4.1 to P4.3, P1, P2: controllers tell what plain ones do, call by call, also their copies, and the same again.
func TestLinesArePlainOnes(t *testing.T) {
	n := uint64(44)
	draw := func() uint32 {
		n = next(n)
		return uint32(n >> 32)
	}
	for range 20 {
		l, again, p := lines.New(), lines.New(), newPlain()
		for range 300 {
			kind, a, b := draw()%9, draw(), draw()
			if kind == 8 {
				left, kept := l, p.copy()
				l = l.Copy()
				step(left, p, a%8, b, a)
				check(t, left, p)
				p = kept
			}
			answer, want := step(l, p, kind, a, b)
			if answer != want {
				t.Fatal(kind, a, b, answer, want)
			}
			if answer, _ := step(again, p, kind, a, b); answer != want {
				t.Fatal(kind, a, b, answer, want)
			}
			check(t, l, p)
			check(t, again, p)
		}
	}
}
