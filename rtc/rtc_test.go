package rtc_test

import (
	"math/big"
	"testing"

	"minuterie/api"
	"minuterie/bus"
	"minuterie/rtc"
)

const (
	all   = 1<<32 - 1
	never = uint64(1<<64 - 1)
)

// The registers' offsets.
const (
	secondsLo = 0
	secondsHi = 4
	setLo     = 8
	setHi     = 0xc
	alarmLo   = 0x10
	alarmHi   = 0x14
	control   = 0x18
	status    = 0x1c
	divider   = 0x20
)

const enable = 1

func next(n uint64) uint64 { return n*6364136223846793005 + 1442695040888963407 }

// words are those at which something turns over, each single bit and all but it, and some without a rule.
func words() []uint32 {
	l := []uint32{0, 3, 5, 7, 10, 0x7fffffff, 0xffff0000, 0xffff, 0xdeadbeef, all - 2, all - 1, all}
	for bit := range 32 {
		l = append(l, 1<<bit, all^1<<bit)
	}
	n := uint64(10)
	for range 8 {
		n = next(n)
		l = append(l, uint32(n>>32))
	}
	return l
}

// great are numbers up to the greatest.
func great() []uint64 {
	l := []uint64{0, 1, 2, 9, 10, 11, all - 1, all, 1 << 32, 1<<32 + 1, 1<<32 + 2, 1<<33 - 1, 1 << 40, never / 3, never/3 + 1, 1<<63 - 1, 1 << 63, 1<<63 + 1, never - 1, never}
	n := uint64(1010)
	for range 6 {
		n = next(n)
		l = append(l, n, n>>30, n>>40)
	}
	return l
}

// divs are dividers, the least and the greatest among them.
func divs() []uint32 { return []uint32{1, 2, 3, 10, 32768, 1000003, 1 << 31, all - 1, all} }

// rests are some that a clock of a divider may have.
func rests(div uint32) []uint32 {
	l := []uint32{0}
	for _, rest := range []uint32{1, 2, div / 2, div - 2, div - 1} {
		if rest < div && rest > l[len(l)-1] {
			l = append(l, rest)
		}
	}
	return l
}

// offsets are the registers', those beside them, and those far away.
func offsets() []uint32 {
	var l []uint32
	for off := range uint32(80) {
		l = append(l, off)
	}
	return append(l, 0x100, 0x104, 0x108, 0x10c, 0x118, 0x11c, 1<<16, 1<<16+8, 1<<16+16, 1<<30, 1<<30+12, 1<<31, 1<<31+4, 1<<31+9, 1<<31+28, all-35, all-31, all-7, all-4, all-3, all-2, all-1, all)
}

// plain is a clock as the document's words tell it, tick by tick.
type plain struct {
	div, rest, set uint32
	seconds, alarm uint64
	enable, status bool
}

func (p *plain) met() bool { return p.enable && p.seconds >= p.alarm }

// around looks whether the alarm is met, behind what is done and ahead of it.
func (p *plain) around(do func()) {
	ahead := p.met()
	do()
	if p.met() && !ahead {
		p.status = true
	}
}

func (p *plain) tick() {
	p.around(func() {
		p.rest++
		if p.rest == p.div {
			p.rest = 0
			if p.seconds != never {
				p.seconds++
			}
		}
	})
}

func (p *plain) ticks(n uint64) {
	for range n {
		p.tick()
	}
}

func number(n uint64) *big.Int { return new(big.Int).SetUint64(n) }

// capped is a number, at most Never.
func capped(n *big.Int) uint64 {
	if n.IsUint64() {
		return n.Uint64()
	}
	return never
}

// atOnce is so many ticks, which may be too many to go through.
func (p *plain) atOnce(n uint64) {
	p.around(func() {
		behind := new(big.Int).Add(number(uint64(p.rest)), number(n))
		seconds, rest := new(big.Int).DivMod(behind, number(uint64(p.div)), new(big.Int))
		p.seconds = capped(seconds.Add(seconds, number(p.seconds)))
		p.rest = uint32(rest.Uint64())
	})
}

func (p *plain) left() uint64 {
	if !p.enable || p.met() {
		return never
	}
	n := number(p.alarm)
	n.Sub(n, number(p.seconds))
	n.Mul(n, number(uint64(p.div)))
	n.Sub(n, number(uint64(p.rest)))
	return capped(n)
}

func bit(is bool) uint32 {
	if is {
		return 1
	}
	return 0
}

func (p *plain) store(off, v uint32) api.Errno {
	switch {
	case off%4 != 0:
		return api.ErrAlign
	case off > divider:
		return api.ErrBus
	case off == secondsLo || off == secondsHi || off == divider:
		return api.ErrRead
	}
	p.around(func() {
		switch off {
		case setLo:
			p.set = v
		case setHi:
			p.seconds, p.rest = uint64(v)*(1<<32)+uint64(p.set), 0
		case alarmLo:
			p.alarm = p.alarm/(1<<32)*(1<<32) + uint64(v)
		case alarmHi:
			p.alarm = uint64(v)*(1<<32) + p.alarm%(1<<32)
		case control:
			p.enable = v%2 == 1
		case status:
			p.status = p.status && v%2 == 0
		}
	})
	return api.OK
}

func (p *plain) reset() { *p = plain{div: p.div, rest: p.rest, seconds: p.seconds} }

// told is all that a clock tells.
type told struct {
	registers            [9]uint32
	seconds, alarm, left uint64
	rest                 uint32
	met, line            bool
}

func (p *plain) tell() told {
	registers := [9]uint32{uint32(p.seconds), uint32(p.seconds / (1 << 32)), p.set, 0, uint32(p.alarm), uint32(p.alarm / (1 << 32)), bit(p.enable), bit(p.status), p.div}
	return told{registers, p.seconds, p.alarm, p.left(), p.rest, p.met(), p.status}
}

func tell(t *testing.T, r *rtc.Rtc) told {
	t.Helper()
	var l [9]uint32
	for i := range l {
		v, e := r.Load(uint32(4 * i))
		if e != api.OK {
			t.Fatal(i, e)
		}
		l[i] = v
	}
	return told{l, r.Seconds(), r.Alarm(), r.Left(), r.Rest(), r.Met(), r.Line()}
}

// check: a clock tells what a plain one does, whatever it is asked.
func check(t *testing.T, r *rtc.Rtc, p *plain) {
	t.Helper()
	if got, want := tell(t, r), p.tell(); got != want {
		t.Fatal(got, want)
	}
}

func made(t *testing.T, div uint32) *rtc.Rtc {
	t.Helper()
	r, e := rtc.New(div)
	if r == nil || e != api.OK {
		t.Fatal(div, e)
	}
	return r
}

func store(t *testing.T, r *rtc.Rtc, off, v uint32) {
	t.Helper()
	if e := r.Store(off, v); e != api.OK {
		t.Fatal(off, v, e)
	}
}

// set stores the seconds.
func set(t *testing.T, r *rtc.Rtc, seconds uint64) {
	t.Helper()
	store(t, r, setLo, uint32(seconds))
	store(t, r, setHi, uint32(seconds>>32))
}

// arm stores the alarm, and lets it be met.
func arm(t *testing.T, r *rtc.Rtc, alarm uint64) {
	t.Helper()
	store(t, r, control, 0)
	store(t, r, alarmLo, uint32(alarm))
	store(t, r, alarmHi, uint32(alarm>>32))
	store(t, r, control, enable)
}

// rung is a clock of a divider, whose alarm is met, and whose Status is 1.
func rung(t *testing.T, div uint32, seconds, alarm uint64) *rtc.Rtc {
	t.Helper()
	r := made(t, div)
	set(t, r, seconds)
	arm(t, r, alarm)
	if !r.Met() || !r.Line() {
		t.Fatal(seconds, alarm)
	}
	return r
}

// silent is one whose Status was cleared.
func silent(t *testing.T, div uint32, seconds, alarm uint64) *rtc.Rtc {
	t.Helper()
	r := rung(t, div, seconds, alarm)
	store(t, r, status, 1)
	if !r.Met() || r.Line() {
		t.Fatal(seconds, alarm)
	}
	return r
}

// twin is a clock, beside a plain one.
type twin struct {
	r *rtc.Rtc
	p plain
}

func newTwin(t *testing.T, div uint32) *twin {
	t.Helper()
	return &twin{made(t, div), plain{div: div}}
}

// set is the seconds, the rest, the alarm and control of both.
func (x *twin) set(t *testing.T, seconds uint64, rest uint32, alarm uint64, order uint32) {
	t.Helper()
	x.store(t, setLo, uint32(seconds))
	x.store(t, setHi, uint32(seconds>>32))
	x.atOnce(uint64(rest))
	x.store(t, alarmLo, uint32(alarm))
	x.store(t, alarmHi, uint32(alarm>>32))
	x.store(t, control, order)
}

func (x *twin) store(t *testing.T, off, v uint32) {
	t.Helper()
	if got, want := x.r.Store(off, v), x.p.store(off, v); got != want {
		t.Fatal(off, v, got, want)
	}
}

func (x *twin) atOnce(n uint64) {
	x.r.Tick(n)
	x.p.atOnce(n)
}

// P10.1: New, of no divider and of others.
func TestNew(t *testing.T) {
	if r, e := rtc.New(0); r != nil || e != api.ErrRange {
		t.Error(r, e)
	}
	for _, div := range append(words(), divs()...) {
		if div == 0 {
			continue
		}
		r := made(t, div)
		want := told{left: never}
		want.registers[8] = div
		if tell(t, r) != want {
			t.Error(div, tell(t, r))
		}
		set(t, r, 77)
		arm(t, r, 5)
		if r = made(t, div); tell(t, r) != want {
			t.Error("shared", div)
		}
	}
}

func TestConstants(t *testing.T) {
	if rtc.Size != 0x24 {
		t.Error(rtc.Size)
	}
}

// P10.1: Tick, by ones and by none, of small dividers, up to an alarm and beyond it.
func TestTickByTick(t *testing.T) {
	for div := uint32(1); div < 6; div++ {
		for alarm := range uint64(5) {
			for order := range uint32(2) {
				x := newTwin(t, div)
				x.set(t, 0, 0, alarm, order)
				for range 30 {
					check(t, x.r, &x.p)
					x.r.Tick(0)
					check(t, x.r, &x.p)
					x.r.Tick(1)
					x.p.tick()
				}
				check(t, x.r, &x.p)
			}
		}
	}
}

// P10.1: Tick, of many at once, from each rest.
func TestTicksAtOnce(t *testing.T) {
	for _, div := range []uint32{1, 2, 5, 9} {
		for from := range uint64(12) {
			for n := range uint64(30) {
				x := newTwin(t, div)
				x.set(t, 6, 0, 8, enable)
				x.r.Tick(from)
				x.p.ticks(from)
				check(t, x.r, &x.p)
				x.r.Tick(n)
				x.p.ticks(n)
				check(t, x.r, &x.p)
			}
		}
	}
}

// P10.1: great numbers of ticks, seconds, dividers and rests; the seconds end at the greatest, where the rest goes on.
func TestGreatTicks(t *testing.T) {
	for _, div := range divs() {
		for _, rest := range rests(div) {
			for _, seconds := range []uint64{0, 5, all, 1 << 32, 1<<63 - 1, never - 2, never - 1, never} {
				for _, n := range great() {
					x := newTwin(t, div)
					x.set(t, seconds, rest, never, enable)
					if x.r.Rest() != rest {
						t.Fatal(div, rest, x.r.Rest())
					}
					x.atOnce(n)
					check(t, x.r, &x.p)
					x.atOnce(n)
					check(t, x.r, &x.p)
				}
			}
		}
	}
}

// P10.1: at the greatest second, tick by tick.
func TestLastSecond(t *testing.T) {
	x := newTwin(t, 3)
	x.set(t, never-1, 0, never, enable)
	for i := range uint32(12) {
		want := never
		if i < 3 {
			want--
		}
		if x.r.Seconds() != want || x.r.Rest() != i%3 || x.r.Line() != (i >= 3) {
			t.Error(i, x.r.Seconds(), x.r.Rest(), x.r.Line())
		}
		x.r.Tick(1)
		x.p.tick()
		check(t, x.r, &x.p)
	}
}

// P10.3: ticks in two calls are as in one.
func TestTicksTogether(t *testing.T) {
	for _, div := range divs() {
		for _, a := range great() {
			for _, b := range great() {
				if b > never-a {
					continue
				}
				one := made(t, div)
				set(t, one, 3)
				one.Tick(uint64(div / 3))
				arm(t, one, 1000)
				two := one.Copy()
				one.Tick(a + b)
				two.Tick(a)
				two.Tick(b)
				if tell(t, one) != tell(t, two) {
					t.Fatal(div, a, b, tell(t, one), tell(t, two))
				}
			}
		}
	}
}

// P10.1: Left, where Enable is 0, where the alarm is met, and where it isn't; up to the greatest, and beyond it.
func TestLeft(t *testing.T) {
	for _, div := range divs() {
		for _, rest := range rests(div) {
			for _, seconds := range []uint64{0, 1, all, 1 << 63, never - 1, never} {
				for _, alarm := range great() {
					for order := range uint32(2) {
						x := newTwin(t, div)
						x.set(t, seconds, rest, alarm, order)
						check(t, x.r, &x.p)
					}
				}
			}
		}
	}
}

// P10.1: Left at its own end.
func TestGreatestLeft(t *testing.T) {
	for _, l := range []struct {
		div, rest      uint32
		seconds, alarm uint64
		left           uint64
	}{
		{1, 0, 0, never, never}, {1, 0, 1, never, never - 1}, {1, 0, 0, never - 1, never - 1}, {1, 0, never - 1, never, 1},
		{2, 0, 0, 1<<63 - 1, never - 1}, {2, 0, 0, 1 << 63, never}, {2, 1, 0, 1 << 63, never}, {2, 1, 0, 1<<63 - 1, never - 2}, {2, 1, 1, 1<<63 + 1, never}, {2, 1, 0, 1<<63 + 1, never}, {2, 1, 0, never, never},
		{3, 0, 0, never / 3, never}, {3, 1, 0, never / 3, never - 1}, {3, 2, 0, never / 3, never - 2}, {3, 2, 0, never/3 + 1, never}, {3, 0, 0, never/3 - 1, never - 3},
		{all, 0, 0, 1<<32 + 1, never}, {all, 1, 0, 1<<32 + 1, never - 1}, {all, all - 1, 0, 1<<32 + 1, never - all + 1}, {all, all - 1, 0, 1<<32 + 2, never}, {all, all - 1, 0, 1, 1}, {all, 0, 0, never, never},
		{1 << 31, 0, 0, 1 << 33, never}, {1 << 31, 1, 0, 1 << 33, never}, {1 << 31, 2, 0, 1 << 33, never - 1}, {1 << 31, 1<<31 - 1, never - 1, never, 1},
	} {
		x := newTwin(t, l.div)
		x.set(t, l.seconds, l.rest, l.alarm, enable)
		if x.r.Left() != l.left {
			t.Error(l, x.r.Left())
		}
		check(t, x.r, &x.p)
	}
}

// P10.3: behind Left ticks the alarm is met, ahead of that it isn't; its line is high from there on.
func TestBehindLeft(t *testing.T) {
	for _, div := range divs() {
		for _, rest := range rests(div) {
			for _, seconds := range []uint64{0, 7, 1<<32 - 2, never - 90} {
				for _, further := range []uint64{1, 2, 3, 89} {
					x := newTwin(t, div)
					x.set(t, seconds, rest, seconds+further, enable)
					left := x.r.Left()
					x.r.Tick(left - 1)
					if x.r.Met() || x.r.Line() || x.r.Left() != 1 || x.r.Seconds() != seconds+further-1 || x.r.Rest() != div-1 {
						t.Fatal(div, rest, seconds, further, tell(t, x.r))
					}
					x.r.Tick(1)
					if !x.r.Met() || !x.r.Line() || x.r.Left() != never || x.r.Seconds() != seconds+further || x.r.Rest() != 0 {
						t.Fatal(div, rest, seconds, further, tell(t, x.r))
					}
				}
			}
		}
	}
}

// The alarm is met by each store that makes it so: Status is 1 at once.
func TestMetByAStore(t *testing.T) {
	const upper = 1 << 32
	for name, x := range map[string]struct {
		seconds, alarm uint64
		order          uint32
		off, v         uint32
	}{
		"control":       {9, 9, 0, control, enable},
		"control late":  {upper, 9, 0, control, all},
		"alarm's lower": {9, 10, enable, alarmLo, 9},
		"alarm's upper": {9, upper + 9, enable, alarmHi, 0},
		"set's upper":   {9, upper + 9, enable, setHi, 1},
	} {
		r := made(t, 10)
		set(t, r, x.seconds)
		arm(t, r, x.alarm)
		if store(t, r, control, x.order); x.order == 0 {
			store(t, r, status, 1)
		}
		if r.Met() || r.Line() {
			t.Fatal(name, "ahead")
		}
		if store(t, r, x.off, x.v); !r.Met() || !r.Line() || r.Left() != never {
			t.Error(name, r.Met(), r.Line(), r.Left())
		}
		if v, e := r.Load(status); v != 1 || e != api.OK {
			t.Error(name, v, e)
		}
	}
}

// The alarm isn't met a second ahead, nor by the lower words alone, nor by stores that don't make it so.
func TestNotMet(t *testing.T) {
	for i, x := range []struct {
		seconds, alarm uint64
		order          uint32
	}{{8, 9, enable}, {never - 1, never, enable}, {all, 1 << 32, enable}, {9, 1<<32 + 8, enable}, {9, 9, 0}, {never, 0, 0}} {
		r := made(t, 10)
		set(t, r, x.seconds)
		store(t, r, alarmLo, uint32(x.alarm))
		store(t, r, alarmHi, uint32(x.alarm>>32))
		store(t, r, control, x.order)
		store(t, r, setLo, all)
		store(t, r, status, 0)
		r.Tick(9)
		if r.Met() || r.Line() || r.Rest() != 9 {
			t.Error(i, r.Met(), r.Line(), r.Rest())
		}
	}
}

// P10.3: a cleared Status stays 0, while the alarm is met all along.
func TestClearedStays(t *testing.T) {
	r := silent(t, 10, 20, 9)
	quiet := func(what string) {
		t.Helper()
		if !r.Met() || r.Line() || r.Left() != never {
			t.Error(what, r.Met(), r.Line(), r.Left())
		}
	}
	for _, n := range great() {
		r.Tick(n)
		quiet("tick")
	}
	store(t, r, control, enable)
	quiet("enabled once more")
	store(t, r, alarmLo, 12)
	quiet("another alarm")
	store(t, r, alarmHi, 0)
	quiet("the alarm's upper word")
	set(t, r, 12)
	quiet("another second, as late as the alarm")
	set(t, r, 1<<40)
	quiet("a later second")
	for _, v := range words() {
		store(t, r, status, v)
		quiet("status")
	}
	for _, off := range []uint32{secondsLo, divider, 36, 1} {
		r.Store(off, 1)
		quiet("a refused store")
	}
}

// Where the alarm wasn't met for a while, it is met anew.
func TestMetAnew(t *testing.T) {
	for name, do := range map[string][2]func(r *rtc.Rtc){
		"control":     {func(r *rtc.Rtc) { store(t, r, control, 2) }, func(r *rtc.Rtc) { store(t, r, control, 3) }},
		"alarm":       {func(r *rtc.Rtc) { store(t, r, alarmLo, 21) }, func(r *rtc.Rtc) { store(t, r, alarmLo, 20) }},
		"alarm's":     {func(r *rtc.Rtc) { store(t, r, alarmHi, 1) }, func(r *rtc.Rtc) { store(t, r, alarmHi, 0) }},
		"seconds":     {func(r *rtc.Rtc) { set(t, r, 8) }, func(r *rtc.Rtc) { set(t, r, 9) }},
		"ticks":       {func(r *rtc.Rtc) { set(t, r, 8) }, func(r *rtc.Rtc) { r.Tick(10) }},
		"many":        {func(r *rtc.Rtc) { set(t, r, 8) }, func(r *rtc.Rtc) { r.Tick(1 << 60) }},
		"later alarm": {func(r *rtc.Rtc) { arm(t, r, 30) }, func(r *rtc.Rtc) { r.Tick(100) }},
	} {
		r := silent(t, 10, 20, 9)
		if do[0](r); r.Met() || r.Line() {
			t.Error(name, "ahead", r.Met(), r.Line())
		}
		if do[1](r); !r.Met() || !r.Line() {
			t.Error(name, r.Met(), r.Line())
		}
	}
}

// Status stays 1, till it is cleared, though the alarm isn't met any more.
func TestStatusStays(t *testing.T) {
	r := rung(t, 10, 20, 9)
	high := func(met bool) {
		t.Helper()
		if r.Met() != met || !r.Line() {
			t.Error(r.Met(), r.Line())
		}
	}
	r.Tick(100)
	high(true)
	store(t, r, control, 0)
	high(false)
	arm(t, r, 1000)
	high(false)
	set(t, r, 5)
	high(false)
	r.Tick(99)
	high(false)
	if r.Left() != 9851 {
		t.Error("a high line hides what is left", r.Left())
	}
	store(t, r, status, 1)
	if r.Line() {
		t.Error("not cleared")
	}
}

// P10.2: of Status bit 0 alone clears; of control bit 0 alone counts.
func TestStoreStatusAndControl(t *testing.T) {
	for _, v := range words() {
		r := rung(t, 10, 20, 9)
		want := tell(t, r)
		want.line, want.registers[7] = v%2 == 0, 1-v%2
		if store(t, r, status, v); tell(t, r) != want {
			t.Fatal(v, tell(t, r), want)
		}
		r = made(t, 10)
		set(t, r, 6)
		store(t, r, alarmLo, 8)
		want = tell(t, r)
		if want.registers[6] = v % 2; v%2 == 1 {
			want.left = 20
		}
		if store(t, r, control, v); tell(t, r) != want {
			t.Fatal(v, tell(t, r), want)
		}
		if store(t, r, control, ^v); r.Left() == want.left {
			t.Fatal(v, r.Left())
		}
	}
}

// P10.2: Set changes nothing, till its upper word is written; then the seconds are both, the rest is 0, and Set stays.
func TestStoreSet(t *testing.T) {
	r := made(t, 10)
	r.Tick(34)
	want := tell(t, r)
	if want.seconds != 3 || want.rest != 4 {
		t.Fatal(want)
	}
	for _, v := range words() {
		want.registers[2] = v
		if store(t, r, setLo, v); tell(t, r) != want {
			t.Fatal(v, tell(t, r), want)
		}
	}
	for _, lower := range words() {
		for _, v := range words() {
			r := made(t, 10)
			r.Tick(34)
			store(t, r, setLo, lower)
			store(t, r, setHi, v)
			want := told{registers: [9]uint32{lower, v, lower, 0, 0, 0, 0, 0, 10}, seconds: uint64(v)<<32 | uint64(lower), left: never}
			if tell(t, r) != want {
				t.Fatal(lower, v, tell(t, r), want)
			}
		}
	}
	r = made(t, 10)
	set(t, r, 7)
	r.Tick(36)
	if store(t, r, setHi, 2); r.Seconds() != 2<<32|7 || r.Rest() != 0 {
		t.Error("Set didn't stay", r.Seconds(), r.Rest())
	}
	if r.Tick(9); r.Seconds() != 2<<32|7 || r.Rest() != 9 {
		t.Error(r.Seconds(), r.Rest())
	}
}

// P10.2: a word of the alarm is written, the other one stays.
func TestStoreAlarm(t *testing.T) {
	for _, lower := range words() {
		for _, upper := range words() {
			r := made(t, 10)
			r.Tick(7)
			want := tell(t, r)
			want.registers[4], want.alarm = lower, uint64(lower)
			if store(t, r, alarmLo, lower); tell(t, r) != want {
				t.Fatal(lower, tell(t, r), want)
			}
			want.registers[5], want.alarm = upper, uint64(upper)<<32|uint64(lower)
			if store(t, r, alarmHi, upper); tell(t, r) != want {
				t.Fatal(lower, upper, tell(t, r), want)
			}
			want.registers[4], want.alarm = ^lower, uint64(upper)<<32|uint64(^lower)
			if store(t, r, alarmLo, ^lower); tell(t, r) != want {
				t.Fatal(lower, upper, tell(t, r), want)
			}
		}
	}
}

// P10.2: errors of Load and Store, in their order; what is refused changes nothing.
func TestErrors(t *testing.T) {
	r := rung(t, 0x99, 0x1100000022, 0x700000008)
	r.Tick(0x44)
	ahead := tell(t, r)
	if ahead.registers != [9]uint32{0x22, 0x11, 0x22, 0, 8, 7, 1, 1, 0x99} || ahead.rest != 0x44 {
		t.Fatal(ahead)
	}
	for _, off := range offsets() {
		want := api.ErrBus
		switch {
		case off%4 != 0:
			want = api.ErrAlign
		case off < 0x24:
			want = api.OK
		}
		v, e := r.Load(off)
		if e != want || e != api.OK && v != 0 || e == api.OK && v != ahead.registers[off/4] {
			t.Errorf("load %x: %d %d", off, v, e)
		}
		if off == secondsLo || off == secondsHi || off == divider {
			want = api.ErrRead
		}
		if want == api.OK {
			continue
		}
		for _, v := range words() {
			if e := r.Store(off, v); e != want {
				t.Errorf("store %x: %d, not %d", off, e, want)
			}
		}
		if tell(t, r) != ahead {
			t.Fatal(off, tell(t, r), ahead)
		}
	}
}

// P10.1: Reset: Set, the alarm, Enable and Status are 0; the seconds, the rest and the divider stay.
func TestReset(t *testing.T) {
	for _, high := range []bool{false, true} {
		r := rung(t, 10, 5<<32|20, 3<<32|9)
		r.Tick(6)
		if !high {
			store(t, r, status, 1)
		}
		want := told{registers: [9]uint32{20, 5, 0, 0, 0, 0, 0, 0, 10}, seconds: 5<<32 | 20, rest: 6, left: never}
		for range 2 {
			if r.Reset(); tell(t, r) != want {
				t.Fatal(tell(t, r), want)
			}
		}
		if r.Tick(4); r.Seconds() != 5<<32|21 || r.Rest() != 0 || r.Line() {
			t.Error(tell(t, r))
		}
		if store(t, r, setHi, 1); r.Seconds() != 1<<32 {
			t.Error("Set stayed", r.Seconds())
		}
		if store(t, r, control, enable); !r.Line() {
			t.Error("not met anew")
		}
	}
}

// P10.1: Copy is the same, and what is done to one isn't told of the other.
func TestCopy(t *testing.T) {
	for _, high := range []bool{false, true} {
		r := rung(t, 10, 20, 9)
		r.Tick(6)
		if !high {
			store(t, r, status, 1)
		}
		ahead, c := tell(t, r), r.Copy()
		if c == r {
			t.Fatal("the very")
		}
		if tell(t, c) != ahead {
			t.Fatal(tell(t, c), ahead)
		}
		r.Tick(101)
		set(t, r, 1)
		arm(t, r, 3)
		store(t, r, status, bit(high))
		if tell(t, c) != ahead {
			t.Error(tell(t, c), ahead)
		}
		before, d := tell(t, r), c.Copy().Copy()
		d.Tick(5)
		d.Reset()
		if tell(t, c) != ahead {
			t.Error(tell(t, c), ahead)
		}
		c.Tick(4)
		if c.Seconds() != 21 || c.Line() != high || tell(t, r) != before {
			t.Error(tell(t, c), tell(t, r))
		}
	}
}

// The chapter's example.
func TestExample(t *testing.T) {
	r := made(t, 10)
	store(t, r, alarmLo, 2)
	if store(t, r, control, 1); r.Left() != 20 {
		t.Error(r.Left())
	}
	if r.Tick(19); r.Line() {
		t.Error("behind 19")
	}
	if r.Tick(1); !r.Line() {
		t.Error("behind 20")
	}
}

// P10.3: a nil clock, whose answer is ahead of that of a misaligned offset.
func TestNilRtc(t *testing.T) {
	var r *rtc.Rtc
	for _, n := range great() {
		r.Tick(n)
	}
	r.Reset()
	if r.Seconds() != 0 || r.Rest() != 0 || r.Alarm() != 0 || r.Met() || r.Line() || r.Left() != never || r.Copy() != nil {
		t.Error(r.Seconds(), r.Rest(), r.Alarm(), r.Met(), r.Line(), r.Left(), r.Copy())
	}
	for _, off := range offsets() {
		if v, e := r.Load(off); v != 0 || e != api.ErrBus {
			t.Error(off, v, e)
		}
		if e := r.Store(off, 1); e != api.ErrBus {
			t.Error(off, e)
		}
	}
}

// P1: calls of one that wasn't made by New end, too: it has no divider to count by.
func TestZeroRtc(t *testing.T) {
	var r rtc.Rtc
	for _, off := range offsets() {
		r.Load(off)
		r.Store(off, 1)
	}
	for _, n := range great() {
		r.Tick(n)
		r.Left()
		r.Copy().Tick(n)
	}
	r.Reset()
	r.Tick(1)
}

// A clock is a device (3), and its room holds all its registers.
func TestOnABus(t *testing.T) {
	r, b := made(t, 10), bus.New()
	const base = 0x10040000
	if e := b.Attach(bus.Region{Base: base, Size: rtc.Size}, r); e != api.OK {
		t.Fatal(e)
	}
	if b.Store(base+alarmLo, 1) != api.OK || b.Store(base+control, enable) != api.OK || b.Store(base+divider, 0) != api.ErrRead || b.Store(base+36, 0) != api.ErrBus {
		t.Error("store")
	}
	r.Tick(10)
	for off, want := range map[uint32]uint32{secondsLo: 1, status: 1, divider: 10} {
		if v, e := b.Load(base + off); v != want || e != api.OK {
			t.Error(off, v, e)
		}
	}
}

// small is a word that meets others of its kind often, and seldom a great one.
func small(a, b uint32) uint32 {
	if b%16 == 0 {
		return all - a%3
	}
	return a % 6
}

// step does the same to both of a twin.
func (x *twin) step(t *testing.T, kind, a, b uint32) {
	t.Helper()
	switch kind {
	case 0, 1, 2:
		x.r.Tick(uint64(a % 9))
		x.p.ticks(uint64(a % 9))
	case 3:
		l := great()
		x.atOnce(l[int(a)%len(l)])
	case 4:
		x.store(t, setLo, small(a, b))
	case 5:
		x.store(t, setHi, small(a, b)%2)
	case 6:
		x.store(t, alarmLo, small(a, b))
	case 7:
		x.store(t, alarmHi, small(a, b)%2)
	case 8:
		x.store(t, control, b&^1|bit(a%4 != 0))
	case 9:
		x.store(t, status, a)
	case 10:
		x.store(t, a%44, b%12)
	case 11:
		if a%8 == 0 {
			x.r.Reset()
			x.p.reset()
		}
	}
	check(t, x.r, &x.p)
}

// P10.1 to P10.3, P1, P2: clocks tell what plain ones do, call by call, also their copies, and the same again.
func TestClocksArePlainOnes(t *testing.T) {
	n := uint64(100)
	draw := func() uint32 {
		n = next(n)
		return uint32(n >> 32)
	}
	rings, ends := 0, 0
	for _, div := range append(divs(), 1, 2, 3, 4, 5, 6, 7, 8) {
		x, again := newTwin(t, div), newTwin(t, div)
		for range 2000 {
			kind, a, b := draw()%13, draw(), draw()
			if kind == 12 {
				left := &twin{x.r, x.p}
				x.r = x.r.Copy()
				left.step(t, a%12, b, a)
				check(t, x.r, &x.p)
				continue
			}
			ahead := x.p.status
			x.step(t, kind, a, b)
			again.step(t, kind, a, b)
			if tell(t, x.r) != tell(t, again.r) {
				t.Fatal(tell(t, x.r), tell(t, again.r))
			}
			rings += int(bit(x.p.status && !ahead))
			ends += int(bit(x.p.seconds == never))
		}
	}
	if rings < 100 || ends == 0 {
		t.Error("too seldom", rings, ends)
	}
}
