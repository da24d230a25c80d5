package reg_test

import (
	"slices"
	"testing"

	"minuterie/api"
	"minuterie/reg"
)

const all = 1<<32 - 1

// words are those at which something turns over, and some without a rule.
func words() []uint32 {
	l := []uint32{0, 1, 2, 3, 4, 7, 8, 12, 0x80000000, 0x7fffffff, 0xffff0000, 0x55555555, 0xaaaaaaaa, 0xdeadbeef, all - 1, all}
	n := uint64(1)
	for range 8 {
		n = next(n)
		l = append(l, uint32(n>>32))
	}
	return l
}

func next(n uint64) uint64 { return n*6364136223846793005 + 1442695040888963407 }

// fromBits is the word of the bits for which set is true.
func fromBits(set func(bit uint32) bool) uint32 {
	n := uint32(0)
	for place := range 32 {
		if bit := uint32(1) << place; set(bit) {
			n += bit
		}
	}
	return n
}

func has(n, bit uint32) bool { return n&bit != 0 }

// written is what the document says of a register's value, written v, bit by bit.
func written(r reg.Reg, v uint32) uint32 {
	return fromBits(func(bit uint32) bool {
		switch {
		case has(r.Clears, bit) && has(v, bit):
			return false
		case has(r.Writes, bit):
			return has(v, bit)
		}
		return has(r.Value, bit)
	})
}

func withValue(r reg.Reg, value uint32) reg.Reg {
	r.Value = value
	return r
}

// eachReg calls back with registers of all kinds, and a word.
func eachReg(see func(r reg.Reg, v uint32)) {
	for _, value := range words() {
		for _, writes := range words() {
			for _, clears := range words() {
				for _, v := range words() {
					see(reg.Reg{Value: value, Reset: value ^ 0x0f0f0f0f, Writes: writes, Clears: clears}, v)
				}
			}
		}
	}
}

// P2.1: Store, of bits that are both written and cleared too.
func TestStore(t *testing.T) {
	for _, x := range []struct {
		value, writes, clears, v, want uint32
	}{
		{12, 3, 4, 7, 11}, {12, 3, 4, 0, 12}, {12, 3, 4, 3, 15}, {15, 3, 4, 0, 12}, {12, 3, 4, all, 11}, {8, 3, 4, 4, 8},
		{0, 0, 0, all, 0}, {all, 0, 0, 0, all}, {5, 0, 0, 2, 5}, {0, all, 0, all, all}, {all, all, 0, 0, 0}, {7, all, 0, 0x80000001, 0x80000001},
		{all, 0, all, 0, all}, {all, 0, all, all, 0}, {all, 0, all, 0x80000001, 0x7ffffffe}, {0, 0, all, all, 0},
		// Both written and cleared: 1 is cleared again, 0 is written.
		{0, 1, 1, 1, 0}, {1, 1, 1, 1, 0}, {1, 1, 1, 0, 0}, {0, 1, 1, 0, 0}, {all, all, all, 0x55555555, 0}, {0xff, 0x3c, 0xf0, 0xff, 0x0f},
	} {
		r := reg.Reg{Value: x.value, Reset: 99, Writes: x.writes, Clears: x.clears}
		if got := reg.Store(r, x.v); got != withValue(r, x.want) {
			t.Error(x, got)
		}
	}
	eachReg(func(r reg.Reg, v uint32) {
		if got := reg.Store(r, v); got != withValue(r, written(r, v)) {
			t.Error(r, v, got)
		}
	})
}

// P2.1: Raise, Fall, of any bits, whatever may be written.
func TestRaiseAndFall(t *testing.T) {
	for _, x := range []struct{ value, bits, raised, fallen uint32 }{
		{12, 3, 15, 12}, {12, 9, 13, 4}, {12, 0, 12, 12}, {0, all, all, 0}, {all, all, all, 0}, {0x80000001, 0x80000000, 0x80000001, 1},
	} {
		for _, writes := range []uint32{0, 5, all} {
			r := reg.Reg{Value: x.value, Reset: 7, Writes: writes, Clears: ^writes}
			if up, down := reg.Raise(r, x.bits), reg.Fall(r, x.bits); up != withValue(r, x.raised) || down != withValue(r, x.fallen) {
				t.Error(x, up, down)
			}
		}
	}
	eachReg(func(r reg.Reg, v uint32) {
		up := fromBits(func(bit uint32) bool { return has(r.Value, bit) || has(v, bit) })
		down := fromBits(func(bit uint32) bool { return has(r.Value, bit) && !has(v, bit) })
		if reg.Raise(r, v) != withValue(r, up) || reg.Fall(r, v) != withValue(r, down) {
			t.Error(r, v, reg.Raise(r, v), reg.Fall(r, v))
		}
	})
}

// P2.1: Again; Only of registers that have one, both or neither.
func TestAgainAndOnly(t *testing.T) {
	eachReg(func(r reg.Reg, v uint32) {
		r.Reset = v
		if got := reg.Again(r); got != withValue(r, v) {
			t.Error(r, got)
		}
		if reg.Only(r) != (r.Writes == 0 && r.Clears == 0) {
			t.Error(r, reg.Only(r))
		}
	})
	for place := range 32 {
		if bit := uint32(1) << place; reg.Only(reg.Reg{Writes: bit}) || reg.Only(reg.Reg{Clears: bit}) || !reg.Only(reg.Reg{Value: bit, Reset: bit}) {
			t.Error(place)
		}
	}
}

// define is a file with the registers of the tests: at 0 a read-only one, at 8 and at the last offset others.
func define(t *testing.T) *reg.File {
	t.Helper()
	f := reg.New()
	for _, x := range []struct {
		off uint32
		r   reg.Reg
	}{
		{8, reg.Reg{Value: 12, Reset: 5, Writes: 3, Clears: 4}}, {last, reg.Reg{Value: 6, Reset: 6, Clears: all}}, {0, reg.Reg{Value: 9, Reset: 4}},
		{12, reg.Reg{Value: all, Reset: 1, Writes: all}},
	} {
		if e := f.Define(x.off, x.r); e != api.OK {
			t.Fatal(x, e)
		}
	}
	return f
}

const last = all - 3

func checkValues(t *testing.T, f *reg.File, want map[uint32]uint32) {
	t.Helper()
	if len(f.Offsets()) != len(want) {
		t.Error(f.Offsets(), want)
	}
	for off, value := range want {
		if v, e := f.Load(off); v != value || e != api.OK {
			t.Error(off, v, e, value)
		}
	}
}

func first() map[uint32]uint32 { return map[uint32]uint32{0: 9, 8: 12, 12: all, last: 6} }

// P2.2: New, and a register that is there with its value, not that behind a reset.
func TestDefineAndLoad(t *testing.T) {
	f := reg.New()
	if f == nil || len(f.Offsets()) != 0 {
		t.Error(f)
	}
	if v, e := f.Load(0); v != 0 || e != api.ErrBus {
		t.Error(v, e)
	}
	f = define(t)
	checkValues(t, f, first())
	if other := reg.New(); len(other.Offsets()) != 0 {
		t.Error(other.Offsets())
	}
}

// checkRefused: a file that refused a call is as it was made.
func checkRefused(t *testing.T, f *reg.File) {
	t.Helper()
	checkValues(t, f, first())
	checkAgain(t, f)
}

// P2.2: the errors of each call, in their order; what is refused changes nothing.
func TestErrors(t *testing.T) {
	none := [4]api.Errno{api.OK, api.ErrBus, api.ErrBus, api.ErrBus}
	askew := [4]api.Errno{api.ErrAlign, api.ErrAlign, api.ErrAlign, api.ErrAlign}
	there := [4]api.Errno{api.ErrMeet, api.OK, api.OK, api.OK}
	for off, want := range map[uint32][4]api.Errno{
		0: {api.ErrMeet, api.OK, api.ErrRead, api.OK}, 8: there, 12: there, last: there,
		4: none, 16: none, 1 << 31: none, last - 4: none,
		1: askew, 2: askew, 3: askew, 9: askew, 10: askew, 11: askew, last + 1: askew, last + 2: askew, all: askew,
	} {
		for kind, e := range want {
			f := define(t)
			v, got := do(f, kind, off, 0x102, 0x203)
			if got != e || e != api.OK && v != 0 {
				t.Error(off, kind, v, got, e)
			}
			if e != api.OK {
				checkRefused(t, f)
			}
		}
	}
	f := define(t)
	if f.Define(4, reg.Reg{Value: 77, Reset: 6}) != api.OK || f.Define(4, reg.Reg{Value: 78}) != api.ErrMeet {
		t.Error("a second one at one offset")
	}
	checkValues(t, f, map[uint32]uint32{0: 9, 4: 77, 8: 12, 12: all, last: 6})
}

// P2.2: a misaligned offset is told ahead of that none is there, on a file without registers too.
func TestErrorsOfAnEmptyFile(t *testing.T) {
	f := reg.New()
	for off := range uint32(9) {
		want := api.ErrBus
		if off%4 != 0 {
			want = api.ErrAlign
		}
		_, e := f.Load(off)
		if e != want || f.Store(off, 1) != want || f.Turn(off, 1, 1) != want {
			t.Error(off, e, f.Store(off, 1), f.Turn(off, 1, 1))
		}
	}
	if len(f.Offsets()) != 0 {
		t.Error(f.Offsets())
	}
}

// P2.2: Store writes as its register allows, and no other one.
func TestFileStore(t *testing.T) {
	f := define(t)
	for _, x := range []struct{ off, v, want uint32 }{{8, 7, 11}, {8, 4, 8}, {8, all, 11}, {12, 0x1234, 0x1234}, {12, 0, 0}, {last, 2, 4}, {last, 1, 4}, {last, all, 0}} {
		if e := f.Store(x.off, x.v); e != api.OK {
			t.Error(x, e)
		}
		if v, _ := f.Load(x.off); v != x.want {
			t.Error(x, v)
		}
	}
	checkValues(t, f, map[uint32]uint32{0: 9, 8: 11, 12: 0, last: 0})
}

// P2.2: Turn raises, then falls: bits that are in both are 0; read-only registers are turned too.
func TestTurn(t *testing.T) {
	for _, x := range []struct{ off, raise, fall, want uint32 }{
		{0, 6, 1, 14}, {0, 0, 0, 9}, {0, all, 0, all}, {0, 0, all, 0}, {0, 6, 6, 9}, {0, 3, 1, 10}, {0, all, 8, all - 8}, {8, 16, 4, 24}, {last, all, all, 0}, {12, 0, 0x80000000, 0x7fffffff},
	} {
		f := define(t)
		if e := f.Turn(x.off, x.raise, x.fall); e != api.OK {
			t.Error(x, e)
		}
		want := first()
		want[x.off] = x.want
		checkValues(t, f, want)
	}
}

func checkAgain(t *testing.T, f *reg.File) {
	t.Helper()
	f.Again()
	checkValues(t, f, map[uint32]uint32{0: 4, 8: 5, 12: 1, last: 6})
}

// P2.3: Again of each register, of the read-only ones too; what may be written stays as it was.
func TestFileAgain(t *testing.T) {
	f := define(t)
	for range 2 {
		checkAgain(t, f)
		if f.Store(8, 6) != api.OK || f.Turn(last, 1, 2) != api.OK || f.Turn(0, 0, all) != api.OK || f.Store(0, 1) != api.ErrRead {
			t.Error("stores behind Again")
		}
		checkValues(t, f, map[uint32]uint32{0: 0, 8: 2, 12: 1, last: 5})
	}
	empty := reg.New()
	empty.Again()
	checkValues(t, empty, nil)
}

// P2.3: Offsets, rising, and new memory each time.
func TestOffsets(t *testing.T) {
	f := reg.New()
	var want []uint32
	n := uint64(7)
	for len(want) < 200 {
		n = next(n)
		off := uint32(n>>32) &^ 3
		if slices.Contains(want, off) {
			continue
		}
		want = append(want, off)
		if e := f.Define(off, reg.Reg{}); e != api.OK {
			t.Fatal(off, e)
		}
		slices.Sort(want)
		if got := f.Offsets(); !slices.Equal(got, want) {
			t.Fatal(got, want)
		}
	}
	l := f.Offsets()
	clear(l)
	_ = append(l[:0], 1, 2, 3)
	if got := f.Offsets(); !slices.Equal(got, want) {
		t.Error("a list that was told is the file's own", got)
	}
	if got := define(t).Offsets(); !slices.Equal(got, []uint32{0, 8, 12, last}) {
		t.Error(got)
	}
}

// P2.3: Copy is the same, and what is done to one isn't told of the other.
func TestCopy(t *testing.T) {
	f := define(t)
	c := f.Copy()
	checkValues(t, c, first())
	turned := func(a, b *reg.File) {
		t.Helper()
		if a.Store(8, 7) != api.OK || a.Turn(0, 6, 1) != api.OK || a.Define(4, reg.Reg{Value: 3, Reset: 8}) != api.OK {
			t.Error("turns")
		}
		checkValues(t, a, map[uint32]uint32{0: 14, 4: 3, 8: 11, 12: all, last: 6})
		checkValues(t, b, first())
		a.Again()
		checkValues(t, a, map[uint32]uint32{0: 4, 4: 8, 8: 5, 12: 1, last: 6})
		checkValues(t, b, first())
	}
	turned(f, c)
	turned(c.Copy(), c)
	turned(c, c.Copy())
	if d := c.Copy(); d.Store(0, 1) != api.ErrRead || d.Define(8, reg.Reg{}) != api.ErrMeet || d.Store(8, 2) != api.OK {
		t.Error("a copy's registers allow something else")
	}
	checkAgain(t, define(t).Copy())
	e := reg.New().Copy()
	if e == nil || e.Define(0, reg.Reg{Value: 1}) != api.OK {
		t.Error("copy of an empty file")
	}
	checkValues(t, e, map[uint32]uint32{0: 1})
}

// P2.4: bits that may neither be written nor cleared stay, whatever is written.
func TestBitsThatStay(t *testing.T) {
	eachReg(func(r reg.Reg, v uint32) {
		if stay := ^(r.Writes | r.Clears); (reg.Store(r, v).Value^r.Value)&stay != 0 {
			t.Error(r, v, reg.Store(r, v))
		}
	})
	f := define(t)
	for _, v := range words() {
		f.Store(8, v)
		if got, _ := f.Load(8); got&^7 != 8 {
			t.Error(v, got)
		}
	}
}

// P2.4: a nil file, whose answer is ahead of that of a misaligned offset.
func TestNilFile(t *testing.T) {
	var f *reg.File
	for _, off := range []uint32{0, 1, 2, 3, 4, 8, all, last} {
		if v, e := f.Load(off); v != 0 || e != api.ErrBus {
			t.Error(off, v, e)
		}
		if f.Define(off, reg.Reg{Value: 1}) != api.ErrBus || f.Store(off, 1) != api.ErrBus || f.Turn(off, 1, 1) != api.ErrBus {
			t.Error(off, f.Define(off, reg.Reg{}), f.Store(off, 1), f.Turn(off, 1, 1))
		}
	}
	f.Again()
	if len(f.Offsets()) != 0 || f.Copy() != nil {
		t.Error(f.Offsets(), f.Copy())
	}
}

// plain is a file as the document's words tell it.
type plain map[uint32]reg.Reg

func (p plain) fault(off uint32) api.Errno {
	if off%4 != 0 {
		return api.ErrAlign
	}
	if _, there := p[off]; !there {
		return api.ErrBus
	}
	return api.OK
}

// defined is the register that do defines, of two numbers.
func defined(a, b uint32) reg.Reg {
	return reg.Reg{Value: a, Reset: b, Writes: a & 0xf0, Clears: b & 0x3c}
}

func (p plain) do(kind int, off, a, b uint32) (uint32, api.Errno) {
	if kind == again {
		for off, r := range p {
			p[off] = withValue(r, r.Reset)
		}
		return 0, api.OK
	}
	e := p.fault(off)
	r := p[off]
	switch {
	case kind == 0 && e == api.OK:
		return 0, api.ErrMeet
	case kind == 0 && e == api.ErrBus:
		p[off] = defined(a, b)
		return 0, api.OK
	case e != api.OK:
		return 0, e
	case kind == 1:
		return r.Value, e
	case kind == 2 && r.Writes == 0 && r.Clears == 0:
		return 0, api.ErrRead
	case kind == 2:
		p[off] = withValue(r, written(r, a))
	case kind == 3:
		p[off] = withValue(r, fromBits(func(bit uint32) bool { return !has(b, bit) && (has(a, bit) || has(r.Value, bit)) }))
	}
	return 0, e
}

// again is the kind of do that has no offset; those ahead are Define, Load, Store and Turn.
const again = 4

func do(f *reg.File, kind int, off, a, b uint32) (uint32, api.Errno) {
	switch kind {
	case 0:
		return 0, f.Define(off, defined(a, b))
	case 1:
		return f.Load(off)
	case 2:
		return 0, f.Store(off, a)
	case 3:
		return 0, f.Turn(off, a, b)
	}
	f.Again()
	return 0, api.OK
}

type told struct {
	v uint32
	e api.Errno
}

// many does calls of all kinds, and is what they told; see is asked behind each.
func many(f *reg.File, see func(kind int, off, a, b uint32, x told)) []told {
	var l []told
	n := uint64(3)
	draw := func(below uint64) uint32 {
		n = next(n)
		return uint32((n >> 32) % below)
	}
	for range 20000 {
		kind, off, a, b := int(draw(4)), draw(257), draw(1<<32), draw(1<<32)
		if draw(500) == 0 {
			kind = again
		}
		v, e := do(f, kind, off, a, b)
		l = append(l, told{v, e})
		see(kind, off, a, b, told{v, e})
	}
	return l
}

// P2.2, P2.3: a file tells what a plain one does, call by call.
func TestFileIsAPlainOne(t *testing.T) {
	p := plain{}
	f := reg.New()
	many(f, func(kind int, off, a, b uint32, x told) {
		if v, e := p.do(kind, off, a, b); v != x.v || e != x.e {
			t.Fatal(kind, off, a, b, x, v, e)
		}
	})
	want := map[uint32]uint32{}
	for off, r := range p {
		want[off] = r.Value
	}
	checkValues(t, f, want)
	checkValues(t, f.Copy(), want)
}

// P1, P2: no call panics, and all answer the same again.
func TestEveryCallEndsAndAnswersTheSame(t *testing.T) {
	ignore := func(int, uint32, uint32, uint32, told) {}
	refused := func(kind int, off, a, b uint32, x told) {
		if kind != again && x != (told{0, api.ErrBus}) {
			t.Error(kind, off, a, b, x)
		}
	}
	f, g := reg.New(), reg.New()
	if !slices.Equal(many(f, ignore), many(g, ignore)) || !slices.Equal(f.Offsets(), g.Offsets()) {
		t.Error("the same calls had other answers")
	}
	many(nil, refused)
}
