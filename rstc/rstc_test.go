package rstc_test

import (
	"math"
	"testing"

	"minuterie/api"
	"minuterie/bus"
	"minuterie/rstc"
)

const all = 1<<32 - 1

// The registers' offsets.
const (
	causes = 0
	count  = 4
	key    = 8
	last   = 0xc
)

// The causes, and the key, as the document tells them.
const (
	powerOn = 1
	timeout = 2
	early   = 4
	wrong   = 8
	soft    = 16
	asks    = 0xb007
)

// latched are the causes that a reset may have.
func latched() []int { return []int{timeout, early, wrong, soft} }

// refused are numbers that are none of these: several causes at once, none, those below 0, and those that are a cause by their lower bits alone.
func refused() []int {
	l := []int{-1, -2, -4, -8, -16, -32, all, 1 << 32, 1 << 62, math.MinInt, math.MaxInt}
	for n := range 300 {
		if n != timeout && n != early && n != wrong && n != soft {
			l = append(l, n)
		}
	}
	for _, cause := range latched() {
		l = append(l, cause|1<<8, cause|1<<16, cause|1<<31, cause|1<<32, cause|1<<40, cause|math.MinInt)
	}
	return l
}

func next(n uint64) uint64 { return n*6364136223846793005 + 1442695040888963407 }

// words are each single bit, all words of the causes' bits, the key and those one bit beside it, and some without a rule.
func words() []uint32 {
	l := []uint32{asks, asks << 16, asks | asks<<16, asks - 1, asks + 1, 0x07b0, 0x0700b, all &^ asks, 0x7fffffff, 0xffff0000 | asks, 0xdeadbeef, all - 31, all - 1, all}
	for n := range uint32(64) {
		l = append(l, n)
	}
	for bit := range 32 {
		l = append(l, 1<<bit, asks^1<<bit)
	}
	n := uint64(9)
	for range 8 {
		n = next(n)
		l = append(l, uint32(n>>32))
	}
	return l
}

// offsets are the registers', those beside them, and those far away.
func offsets() []uint32 {
	var l []uint32
	for off := range uint32(64) {
		l = append(l, off)
	}
	return append(l, 0x100, 0x104, 0x108, 0x10c, 1<<16, 1<<16+8, 1<<30, 1<<30+8, 1<<31, 1<<31+4, 1<<31+8, 1<<31+9, all-15, all-11, all-7, all-4, all-3, all-2, all-1, all)
}

// told is all that a controller tells.
type told struct {
	registers   [4]uint32
	cause, last int
	count       uint32
	asked       bool
}

func load(t *testing.T, r *rstc.Rstc, off uint32) uint32 {
	t.Helper()
	v, e := r.Load(off)
	if e != api.OK {
		t.Fatal(off, e)
	}
	return v
}

func tell(t *testing.T, r *rstc.Rstc) told {
	t.Helper()
	registers := [4]uint32{load(t, r, causes), load(t, r, count), load(t, r, key), load(t, r, last)}
	return told{registers, r.Cause(), r.Last(), r.Count(), r.Asked()}
}

// plain is a controller as the document's words tell it.
type plain struct {
	causes map[int]bool
	count  uint32
	last   int
	asked  bool
}

func newPlain() *plain { return &plain{causes: map[int]bool{powerOn: true}, last: powerOn} }

func (p *plain) latch(cause int) bool {
	if cause != timeout && cause != early && cause != wrong && cause != soft {
		return false
	}
	p.causes[cause] = true
	p.last = cause
	p.count++
	p.asked = false
	return true
}

func (p *plain) store(off, v uint32) api.Errno {
	switch {
	case off%4 != 0:
		return api.ErrAlign
	case off > last:
		return api.ErrBus
	case off == count || off == last:
		return api.ErrRead
	case off == key && v == asks:
		p.asked = true
	case off == causes:
		for cause := range p.causes {
			p.causes[cause] = p.causes[cause] && int(v)&cause == 0
		}
	}
	return api.OK
}

func (p *plain) tell() told {
	w := 0
	for cause, is := range p.causes {
		if is {
			w += cause
		}
	}
	return told{[4]uint32{uint32(w), p.count, 0, uint32(p.last)}, w, p.last, p.count, p.asked}
}

func (p *plain) copied() *plain {
	c := *p
	c.causes = map[int]bool{}
	for cause, is := range p.causes {
		c.causes[cause] = is
	}
	return &c
}

func check(t *testing.T, r *rstc.Rstc, want told) {
	t.Helper()
	if got := tell(t, r); got != want {
		t.Fatal(got, want)
	}
}

func store(t *testing.T, r *rstc.Rstc, off, v uint32) {
	t.Helper()
	if e := r.Store(off, v); e != api.OK {
		t.Fatal(off, v, e)
	}
}

func latch(t *testing.T, r *rstc.Rstc, cause int) {
	t.Helper()
	if !r.Latch(cause) {
		t.Fatal(cause)
	}
}

// made is a controller behind these resets, which may be asked for one.
func made(t *testing.T, asked bool, resets ...int) *rstc.Rstc {
	t.Helper()
	r := rstc.New()
	for _, cause := range resets {
		latch(t, r, cause)
	}
	if asked {
		store(t, r, key, asks)
	}
	return r
}

// atFirst is what a new controller tells.
func atFirst() told {
	return told{[4]uint32{powerOn, 0, 0, powerOn}, powerOn, powerOn, 0, false}
}

// P9.1: New.
func TestNew(t *testing.T) {
	r := rstc.New()
	check(t, r, atFirst())
	latch(t, r, soft)
	store(t, r, causes, powerOn)
	store(t, r, key, asks)
	check(t, rstc.New(), atFirst())
}

func TestConstants(t *testing.T) {
	if rstc.PowerOn != powerOn || rstc.Timeout != timeout || rstc.Early != early || rstc.Wrong != wrong || rstc.Soft != soft {
		t.Error(rstc.PowerOn, rstc.Timeout, rstc.Early, rstc.Wrong, rstc.Soft)
	}
	if rstc.Key != asks || rstc.Size != 0x10 {
		t.Error(rstc.Key, rstc.Size)
	}
}

// P9.1, P9.3: Latch of each cause, behind each other, whether it is asked or not, sets its bit beside those that are set.
func TestLatch(t *testing.T) {
	for _, asked := range []bool{false, true} {
		for _, a := range latched() {
			r := made(t, asked)
			latch(t, r, a)
			check(t, r, told{[4]uint32{uint32(powerOn | a), 1, 0, uint32(a)}, powerOn | a, a, 1, false})
			for _, b := range latched() {
				r := made(t, asked, a)
				latch(t, r, b)
				w := powerOn | a | b
				check(t, r, told{[4]uint32{uint32(w), 2, 0, uint32(b)}, w, b, 2, false})
			}
		}
	}
}

// P9.1: Latch of a cause whose bit was cleared, and of one whose bit is set already.
func TestLatchAgain(t *testing.T) {
	for _, cause := range latched() {
		r := made(t, false, cause)
		store(t, r, causes, all)
		latch(t, r, cause)
		check(t, r, told{[4]uint32{uint32(cause), 2, 0, uint32(cause)}, cause, cause, 2, false})
		latch(t, r, cause)
		check(t, r, told{[4]uint32{uint32(cause), 3, 0, uint32(cause)}, cause, cause, 3, false})
	}
}

// P9.1: Latch of others does nothing, to one that is asked neither.
func TestLatchOfNone(t *testing.T) {
	for _, asked := range []bool{false, true} {
		for _, resets := range [][]int{nil, {wrong}, {soft, early, timeout}} {
			r := made(t, asked, resets...)
			ahead := tell(t, r)
			for _, cause := range refused() {
				if r.Latch(cause) {
					t.Error(cause)
				}
				check(t, r, ahead)
			}
		}
	}
}

// P9.1: the count has more than 16 bits.
func TestManyResets(t *testing.T) {
	r := rstc.New()
	const many = 1<<16 + 5
	for i := range uint32(many) {
		latch(t, r, latched()[i%4])
		if r.Count() != i+1 {
			t.Fatal(i, r.Count())
		}
	}
	check(t, r, told{[4]uint32{31, many, 0, timeout}, 31, timeout, many, false})
}

// P9.1: it is asked by the key alone, till a reset; other words and other registers take nothing back.
func TestAsked(t *testing.T) {
	for _, v := range words() {
		r, want := rstc.New(), atFirst()
		store(t, r, key, v)
		want.asked = v == asks
		check(t, r, want)
		want.asked = true
		store(t, r, key, asks)
		check(t, r, want)
		store(t, r, key, v)
		check(t, r, want)
		store(t, r, causes, v&^powerOn)
		check(t, r, want)
		latch(t, r, soft)
		if r.Asked() {
			t.Error(v)
		}
	}
	r := rstc.New()
	for _, off := range []uint32{causes, count, last, 16, asks, 1} {
		r.Store(off, asks)
		if r.Asked() {
			t.Error("asked by another register", off)
		}
	}
}

// P9.1, P9.2: bits 1 clear the cause's, and those alone: neither the last cause nor the count.
func TestStoreCause(t *testing.T) {
	for _, asked := range []bool{false, true} {
		for _, resets := range [][]int{nil, {timeout}, {early, wrong}, {timeout, early, wrong, soft}} {
			for _, v := range words() {
				r := made(t, asked, resets...)
				want := tell(t, r)
				want.cause &^= int(v)
				want.registers[0] &^= v
				store(t, r, causes, v)
				check(t, r, want)
				store(t, r, causes, 0)
				check(t, r, want)
			}
		}
	}
}

// P9.1: Copy is the same, and what is done to one isn't told of the other.
func TestCopy(t *testing.T) {
	for _, asked := range []bool{false, true} {
		r := made(t, asked, early, soft)
		ahead, c := tell(t, r), r.Copy()
		if c == r {
			t.Fatal("the very")
		}
		check(t, c, ahead)
		latch(t, r, wrong)
		store(t, r, causes, 7)
		check(t, c, ahead)
		before := tell(t, r)
		store(t, c, key, asks)
		store(t, c, causes, all)
		check(t, r, before)
		latch(t, c, timeout)
		check(t, r, before)
		check(t, c, told{[4]uint32{timeout, 3, 0, timeout}, timeout, timeout, 3, false})
	}
}

// P9.1: Word of each cause, and of others.
func TestWord(t *testing.T) {
	for cause, want := range map[int]string{powerOn: "power", timeout: "timeout", early: "early", wrong: "wrong", soft: "soft"} {
		if got := rstc.Word(cause); got != want {
			t.Error(cause, got)
		}
	}
	for _, n := range append(refused(), powerOn|1<<32, powerOn|math.MinInt) {
		if n != powerOn && rstc.Word(n) != "" {
			t.Error(n, rstc.Word(n))
		}
	}
}

// P9.2: errors of Load and Store, in their order; what is refused changes nothing.
func TestErrors(t *testing.T) {
	for _, asked := range []bool{false, true} {
		r := made(t, asked, wrong, soft, early)
		ahead := tell(t, r)
		if ahead.registers != [4]uint32{29, 3, 0, 4} {
			t.Fatal(ahead)
		}
		for _, off := range offsets() {
			want := api.ErrBus
			switch {
			case off%4 != 0:
				want = api.ErrAlign
			case off <= last:
				want = api.OK
			}
			v, e := r.Load(off)
			if e != want || e != api.OK && v != 0 || e == api.OK && v != ahead.registers[off/4] {
				t.Errorf("load %x: %d %d", off, v, e)
			}
			if off == count || off == last {
				want = api.ErrRead
			}
			if want == api.OK {
				continue
			}
			for _, v := range words() {
				if e := r.Store(off, v); e != want {
					t.Errorf("store %x: %d, not %d", off, e, want)
				}
				check(t, r, ahead)
			}
		}
	}
}

// The chapter's example.
func TestExample(t *testing.T) {
	r := rstc.New()
	if !r.Latch(rstc.Timeout) || r.Cause() != 3 || r.Last() != 2 || r.Count() != 1 {
		t.Error(r.Cause(), r.Last(), r.Count())
	}
	if e := r.Store(0, 1); e != api.OK || r.Cause() != 2 {
		t.Error(e, r.Cause())
	}
}

// P9.3: a nil controller, whose answer is ahead of that of a misaligned offset.
func TestNilRstc(t *testing.T) {
	var r *rstc.Rstc
	for _, cause := range append(refused(), latched()...) {
		if r.Latch(cause) {
			t.Error(cause)
		}
	}
	if r.Asked() || r.Cause() != 0 || r.Last() != 0 || r.Count() != 0 || r.Copy() != nil {
		t.Error(r.Asked(), r.Cause(), r.Last(), r.Count(), r.Copy())
	}
	for _, off := range offsets() {
		if v, e := r.Load(off); v != 0 || e != api.ErrBus {
			t.Error(off, v, e)
		}
		if e := r.Store(off, asks); e != api.ErrBus {
			t.Error(off, e)
		}
	}
}

// A controller is a device (3), and its room holds all its registers.
func TestOnABus(t *testing.T) {
	r, b := rstc.New(), bus.New()
	const base = 0x10030000
	if e := b.Attach(bus.Region{Base: base, Size: rstc.Size}, r); e != api.OK {
		t.Fatal(e)
	}
	if b.Store(base+key, asks) != api.OK || b.Store(base+causes, powerOn) != api.OK || b.Store(base+last, 0) != api.ErrRead || b.Store(base+16, 0) != api.ErrBus {
		t.Error("store")
	}
	if !r.Asked() || r.Cause() != 0 {
		t.Error(tell(t, r))
	}
	latch(t, r, soft)
	if v, e := b.Load(base + last); v != soft || e != api.OK {
		t.Error(v, e)
	}
}

// twin is a controller, beside a plain one.
type twin struct {
	r *rstc.Rstc
	p *plain
}

func newTwin() *twin { return &twin{rstc.New(), newPlain()} }

func (x *twin) copied() *twin { return &twin{x.r.Copy(), x.p.copied()} }

func (x *twin) latch(t *testing.T, cause int) {
	t.Helper()
	ahead, latches := x.r.Count(), x.p.latch(cause)
	if x.r.Latch(cause) != latches {
		t.Fatal(cause, latches)
	}
	if latches && (x.r.Cause()&x.r.Last() == 0 || x.r.Count() <= ahead) {
		t.Fatal(cause, ahead, tell(t, x.r))
	}
}

func (x *twin) store(t *testing.T, off, v uint32) {
	t.Helper()
	ahead := x.r.Count()
	if got, want := x.r.Store(off, v), x.p.store(off, v); got != want {
		t.Fatal(off, v, got, want)
	}
	if x.r.Count() != ahead {
		t.Fatal(off, v, ahead, x.r.Count())
	}
}

// step does the same to both of a twin.
func (x *twin) step(t *testing.T, kind, a, b uint32) {
	t.Helper()
	switch kind {
	case 0, 1:
		x.latch(t, latched()[a%4])
	case 2:
		x.latch(t, refused()[a%100])
	case 3:
		x.latch(t, int(a%33))
	case 4:
		x.store(t, causes, a%32)
	case 5:
		x.store(t, causes, b)
	case 6:
		x.store(t, key, asks)
	case 7:
		x.store(t, key, words()[a%100])
	case 8:
		x.store(t, a%24, b)
	}
	check(t, x.r, x.p.tell())
}

// P9.1 to P9.3, P1, P2: controllers tell what plain ones do, call by call, also their copies, and the same again.
func TestControllersArePlainOnes(t *testing.T) {
	n := uint64(90)
	draw := func() uint32 {
		n = next(n)
		return uint32(n >> 32)
	}
	for range 60 {
		x, again := newTwin(), newTwin()
		for range 300 {
			kind, a, b := draw()%10, draw(), draw()
			if kind == 9 {
				left := x
				x = x.copied()
				left.step(t, a%9, b, a)
				check(t, x.r, x.p.tell())
				continue
			}
			x.step(t, kind, a, b)
			again.step(t, kind, a, b)
			check(t, again.r, tell(t, x.r))
		}
	}
}
