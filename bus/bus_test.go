package bus_test

import (
	"cmp"
	"slices"
	"testing"

	"minuterie/api"
	"minuterie/bus"
	"minuterie/reg"
)

const (
	all  = 1<<32 - 1
	last = all - 3
)

func at(base, size uint32) bus.Region { return bus.Region{Base: base, Size: size} }

// asked is what a device was asked for.
type asked struct {
	store  bool
	off, v uint32
}

// witness answers as it is told to, and keeps what it was asked for.
type witness struct {
	v   uint32
	e   api.Errno
	was []asked
}

func (w *witness) Load(off uint32) (uint32, api.Errno) {
	w.was = append(w.was, asked{false, off, 0})
	return w.v, w.e
}

func (w *witness) Store(off, v uint32) api.Errno {
	w.was = append(w.was, asked{true, off, v})
	return w.e
}

// empty is a device that is a value without a pointer.
type empty struct{}

func (empty) Load(off uint32) (uint32, api.Errno) { return off + 1, api.OK }
func (empty) Store(off, v uint32) api.Errno       { return api.ErrRead }

func attach(t *testing.T, b *bus.Bus, r bus.Region, d bus.Device) {
	t.Helper()
	if e := b.Attach(r, d); e != api.OK {
		t.Fatal(r, e)
	}
}

// edges are the addresses at which something turns over.
func edges() []uint32 {
	var l []uint32
	for _, n := range []uint32{0, 0x100, 0x110, 1 << 16, 1 << 24, 1 << 31, 1<<31 + 1<<24, last - 0x100} {
		for d := range uint32(14) {
			l = append(l, n+d-7)
		}
	}
	slices.Sort(l)
	return slices.Compact(l)
}

// belongs is as the document tells it, in numbers that don't go round.
func belongs(r bus.Region, addr uint64) bool {
	return addr <= all && addr >= uint64(r.Base) && addr < uint64(r.Base)+uint64(r.Size)
}

// P3.1: Has, of regions of any base and size, those beyond 2^32 - 1 too.
func TestHas(t *testing.T) {
	for _, x := range []struct {
		r    bus.Region
		addr uint32
		has  bool
	}{
		{at(4, 4), 3, false}, {at(4, 4), 4, true}, {at(4, 4), 5, true}, {at(4, 4), 7, true}, {at(4, 4), 8, false}, {at(0, 0), 0, false}, {at(7, 0), 7, false}, {at(0, 1), 0, true}, {at(0, 1), 1, false},
		{at(3, 2), 2, false}, {at(3, 2), 4, true}, {at(3, 2), 5, false}, {at(0, all), all - 1, true}, {at(0, all), all, false}, {at(1, all), all, true}, {at(1, all), 0, false},
		{at(all, 9), all, true}, {at(all, 9), all - 1, false}, {at(all, 9), 0, false}, {at(all, 9), 7, false}, {at(all, 0), all, false}, {at(all, 1), all, true}, {at(1<<31, 1<<31), all, true}, {at(1<<31, all), 1<<31 - 2, false},
	} {
		if bus.Has(x.r, x.addr) != x.has {
			t.Error(x)
		}
	}
	for _, base := range edges() {
		for _, size := range edges() {
			for _, addr := range edges() {
				if r := at(base, size); bus.Has(r, addr) != belongs(r, uint64(addr)) {
					t.Fatal(r, addr, bus.Has(r, addr))
				}
			}
		}
	}
}

// P3.1: Meet, of regions that touch, lie within one another, have nothing, or go beyond 2^32 - 1.
func TestMeet(t *testing.T) {
	for _, x := range []struct {
		a, b bus.Region
		meet bool
	}{
		{at(0, 8), at(4, 8), true}, {at(0, 8), at(8, 8), false}, {at(0, 9), at(8, 8), true}, {at(0, 8), at(7, 1), true}, {at(4, 4), at(0, 100), true}, {at(5, 5), at(5, 5), true}, {at(0, 4), at(100, 4), false},
		{at(0, 0), at(0, 8), false}, {at(4, 0), at(0, 8), false}, {at(4, 0), at(4, 0), false}, {at(8, 0), at(0, 8), false}, {at(0, 0), at(0, 0), false},
		{at(all, 9), at(all, 1), true}, {at(all, 9), at(0, 8), false}, {at(all, all), at(0, 8), false}, {at(all, 9), at(all, 0), false}, {at(all-1, 1), at(all, 5), false}, {at(all-1, 2), at(all, 5), true},
		{at(1<<31, 1<<31), at(0, 1<<31), false}, {at(1<<31, 1<<31), at(0, 1<<31+1), true}, {at(1<<31, all), at(0, 1<<31), false}, {at(1<<31, all), at(1<<31+7, all), true}, {at(0, all), at(all, 1), false}, {at(1, all), at(all, 1), true},
	} {
		if bus.Meet(x.a, x.b) != x.meet || bus.Meet(x.b, x.a) != x.meet {
			t.Error(x, bus.Meet(x.a, x.b), bus.Meet(x.b, x.a))
		}
	}
}

// P3.1: two regions meet just if an address belongs to both: the first one of either does, then.
func TestMeetIsAnAddressOfBoth(t *testing.T) {
	var l []bus.Region
	for _, base := range []uint32{0, 1, 4, 7, 8, 1 << 31, 1<<31 + 4, all - 8, all - 4, all - 1, all} {
		for _, size := range []uint32{0, 1, 3, 4, 5, 8, 1<<31 - 1, 1 << 31, 1<<31 + 1, all - 7, all - 1, all} {
			l = append(l, at(base, size))
		}
	}
	for _, a := range l {
		for _, b := range l {
			want := false
			for _, addr := range []uint32{a.Base, b.Base} {
				want = want || belongs(a, uint64(addr)) && belongs(b, uint64(addr))
			}
			if bus.Meet(a, b) != want {
				t.Fatal(a, b, bus.Meet(a, b))
			}
		}
	}
}

// P3.2: New.
func TestNew(t *testing.T) {
	b := bus.New()
	if b == nil || len(b.Regions()) != 0 {
		t.Fatal(b)
	}
	for _, addr := range edges() {
		checkNone(t, b, addr)
	}
	attach(t, b, at(0, 4), empty{})
	if other := bus.New(); len(other.Regions()) != 0 {
		t.Error(other.Regions())
	}
}

// checkNone: no region has the address, or it is misaligned.
func checkNone(t *testing.T, b *bus.Bus, addr uint32) {
	t.Helper()
	want := api.ErrBus
	if addr%4 != 0 {
		want = api.ErrAlign
	}
	if r, off, e := b.Find(addr); r != at(0, 0) || off != 0 || e != want {
		t.Error("find", addr, r, off, e)
	}
	if v, e := b.Load(addr); v != 0 || e != want {
		t.Error("load", addr, v, e)
	}
	if e := b.Store(addr, all); e != want {
		t.Error("store", addr, e)
	}
}

// P3.2: Attach's errors, each alone; what is refused isn't there.
func TestAttach(t *testing.T) {
	b := bus.New()
	attach(t, b, at(0x100, 0x10), empty{})
	for i, x := range []struct {
		r bus.Region
		d bus.Device
		e api.Errno
	}{
		{at(0x200, 4), nil, api.ErrArg},
		{at(0x201, 4), empty{}, api.ErrAlign}, {at(0x202, 4), empty{}, api.ErrAlign}, {at(0x203, 4), empty{}, api.ErrAlign}, {at(0x200, 1), empty{}, api.ErrAlign}, {at(0x200, 2), empty{}, api.ErrAlign}, {at(0x200, 3), empty{}, api.ErrAlign}, {at(0x202, 6), empty{}, api.ErrAlign},
		{at(0x200, 0), empty{}, api.ErrRange}, {at(0, 0), empty{}, api.ErrRange}, {at(last, 8), empty{}, api.ErrRange}, {at(8, last), empty{}, api.ErrRange}, {at(1<<31, 1<<31+4), empty{}, api.ErrRange}, {at(last, last), empty{}, api.ErrRange},
		{at(0x100, 0x10), empty{}, api.ErrMeet}, {at(0xfc, 8), empty{}, api.ErrMeet}, {at(0x10c, 8), empty{}, api.ErrMeet}, {at(0x104, 4), empty{}, api.ErrMeet}, {at(0, last), empty{}, api.ErrMeet}, {at(4, last), empty{}, api.ErrMeet}, {at(0xfc, 0x18), empty{}, api.ErrMeet},
	} {
		if e := b.Attach(x.r, x.d); e != x.e {
			t.Error(i, x.r, e)
		}
		if l := b.Regions(); !slices.Equal(l, []bus.Region{at(0x100, 0x10)}) {
			t.Fatal(i, l)
		}
		for _, addr := range []uint32{0, 0xfc, 0x110, 0x200, 0x204, last, 1 << 31} {
			checkNone(t, b, addr)
		}
	}
	for _, r := range []bus.Region{at(0xfc, 4), at(0x110, 4), at(last, 4), at(0, 4), at(4, 0xf8), at(0x114, last-0x114)} {
		attach(t, b, r, empty{})
	}
}

// P3.2: where several errors apply, the first one is told.
func TestAttachOrder(t *testing.T) {
	b := bus.New()
	for i := range uint32(api.MaxRegion) {
		if e := b.Attach(at(0x1000+8*i, 0), empty{}); e != api.ErrRange {
			t.Error(i, e)
		}
		if i > 0 {
			if e := b.Attach(at(0x1000, 8*i+4), empty{}); e != api.ErrMeet {
				t.Error(i, e)
			}
		}
		attach(t, b, at(0x1000+8*i, 4), empty{})
	}
	l := b.Regions()
	if len(l) != api.MaxRegion {
		t.Fatal(l)
	}
	for i, x := range []struct {
		r bus.Region
		d bus.Device
		e api.Errno
	}{
		{at(0x1001, 0), nil, api.ErrArg}, {at(0x1000, 4), nil, api.ErrArg}, {at(0x2000, 4), nil, api.ErrArg}, {at(last, 8), nil, api.ErrArg},
		{at(0x1001, 0), empty{}, api.ErrAlign}, {at(0x1000, 3), empty{}, api.ErrAlign}, {at(all, 8), empty{}, api.ErrAlign}, {at(last, 7), empty{}, api.ErrAlign}, {at(0x2001, 4), empty{}, api.ErrAlign},
		{at(0x1000, 0), empty{}, api.ErrRange}, {at(0x1000, last), empty{}, api.ErrRange}, {at(0x2000, 0), empty{}, api.ErrRange}, {at(last, 8), empty{}, api.ErrRange},
		{at(0x1000, 4), empty{}, api.ErrMany}, {at(0x2000, 4), empty{}, api.ErrMany}, {at(0, last), empty{}, api.ErrMany},
	} {
		if e := b.Attach(x.r, x.d); e != x.e {
			t.Error(i, x.r, e)
		}
	}
	if !slices.Equal(l, b.Regions()) {
		t.Error(b.Regions())
	}
	checkNone(t, b, 0x2000)
}

// P3.2: Regions, rising by their bases in whatever order they come, and new memory each time.
func TestRegions(t *testing.T) {
	b := bus.New()
	var want []bus.Region
	for i := range uint32(api.MaxRegion) {
		r := at(i*37%api.MaxRegion<<26, 4+i*4)
		attach(t, b, r, empty{})
		want = append(want, r)
		slices.SortFunc(want, func(x, y bus.Region) int { return cmp.Compare(x.Base, y.Base) })
		if !slices.Equal(b.Regions(), want) {
			t.Fatal(b.Regions(), want)
		}
	}
	l := b.Regions()
	clear(l)
	_ = append(l[:0], at(1, 1), at(2, 2))
	if !slices.Equal(b.Regions(), want) {
		t.Error("a list that was told is the bus's own", b.Regions())
	}
}

// P3.3: Find, Load and Store at the ends of regions, of small and of great ones, up to the last address.
func TestFind(t *testing.T) {
	b := bus.New()
	l := []bus.Region{at(0x100, 0x10), at(0x110, 4), at(0x118, 8), at(1<<24-4, 8), at(1<<25, 1<<30), at(1<<30+1<<25, 4), at(1<<31, 1<<31-8), at(last, 4)}
	devices := map[bus.Region]*witness{}
	for i, r := range l {
		devices[r] = &witness{v: uint32(i) + 70}
		attach(t, b, r, devices[r])
	}
	for _, addr := range []uint32{0, 0xfc, 0x114, 0x120, 1<<24 - 8, 1<<24 + 4, 1<<25 - 4, 1<<30 + 1<<25 + 4, 1<<31 - 4, last - 4, 0x101, 0x10e, 0x123, all, all - 1, last + 1, 1<<25 + 1} {
		checkNone(t, b, addr)
	}
	for _, r := range l {
		for _, off := range []uint32{0, 4, r.Size / 8 * 4, r.Size - 4} {
			checkReached(t, b, r, min(off, r.Size-4), devices[r])
		}
	}
	for r, d := range devices {
		if len(d.was) != 8 {
			t.Error(r, d.was)
		}
	}
}

func checkReached(t *testing.T, b *bus.Bus, r bus.Region, off uint32, d *witness) {
	t.Helper()
	addr := r.Base + off
	if got, o, e := b.Find(addr); got != r || o != off || e != api.OK {
		t.Error(addr, got, o, e)
	}
	if v, e := b.Load(addr); v != d.v || e != api.OK {
		t.Error(addr, v, e)
	}
	if e := b.Store(addr, addr^99); e != api.OK {
		t.Error(addr, e)
	}
	if n := len(d.was); n < 2 || d.was[n-2] != (asked{false, off, 0}) || d.was[n-1] != (asked{true, off, addr ^ 99}) {
		t.Error(addr, d.was)
	}
	for _, askew := range []uint32{addr + 1, addr + 2, addr + 3} {
		checkNone(t, b, askew)
	}
}

// P3.3: what a device tells is told, whatever number it is; beside an error 0.
func TestDeviceErrors(t *testing.T) {
	w := &witness{v: 123}
	b := bus.New()
	attach(t, b, at(0x40, 0x40), w)
	for _, e := range []api.Errno{api.OK, api.ErrArg, api.ErrBus, api.ErrAlign, api.ErrRead, api.ErrMeet, 99, -1} {
		w.e = e
		want := uint32(0)
		if e == api.OK {
			want = 123
		}
		if v, got := b.Load(0x44); v != want || got != e {
			t.Error(e, v, got)
		}
		if got := b.Store(0x44, 1); got != e {
			t.Error(e, got)
		}
		if r, off, got := b.Find(0x44); r != at(0x40, 0x40) || off != 4 || got != api.OK {
			t.Error(e, r, off, got)
		}
	}
}

// P3.3, and the chapter's example.
func TestFileOnABus(t *testing.T) {
	f := reg.New()
	if f.Define(4, reg.Reg{Value: 12, Writes: 3, Clears: 4}) != api.OK || f.Define(8, reg.Reg{Value: 5}) != api.OK {
		t.Fatal("define")
	}
	b := bus.New()
	attach(t, b, at(0x100, 0x10), f)
	if r, off, e := b.Find(0x104); r != at(0x100, 0x10) || off != 4 || e != api.OK {
		t.Error(r, off, e)
	}
	checkNone(t, b, 0x110)
	checkNone(t, b, 0x102)
	if v, e := b.Load(0x100); v != 0 || e != api.ErrBus {
		t.Error(v, e)
	}
	if b.Store(0x104, 7) != api.OK || b.Store(0x108, 7) != api.ErrRead || b.Store(0x10c, 7) != api.ErrBus {
		t.Error("store")
	}
	if v, e := b.Load(0x104); v != 11 || e != api.OK {
		t.Error(v, e)
	}
	// The device is the very one that was handed in: what is done to it is told.
	if f.Turn(8, 2, 1) != api.OK {
		t.Error("turn")
	}
	if v, e := b.Load(0x108); v != 6 || e != api.OK {
		t.Error(v, e)
	}
	if v, e := f.Load(4); v != 11 || e != api.OK {
		t.Error(v, e)
	}
}

// P3.4: what is stored in one region changes no other one; one device may have several.
func TestRegionsApart(t *testing.T) {
	b := bus.New()
	var files []*reg.File
	for i := range uint32(8) {
		f := reg.New()
		if f.Define(0, reg.Reg{Value: i, Writes: all}) != api.OK {
			t.Fatal(i)
		}
		files = append(files, f)
		attach(t, b, at(0x20+4*i, 4), f)
	}
	for i := range uint32(8) {
		if e := b.Store(0x20+4*i, 100+i); e != api.OK {
			t.Error(i, e)
		}
		for j, f := range files {
			want := uint32(j)
			if want <= i {
				want += 100
			}
			if v, e := f.Load(0); v != want || e != api.OK {
				t.Error(i, j, v, e)
			}
		}
	}
	attach(t, b, at(0x1000, 4), files[3])
	if b.Store(0x1000, 55) != api.OK {
		t.Error("store")
	}
	if v, e := b.Load(0x2c); v != 55 || e != api.OK {
		t.Error(v, e)
	}
}

// P3.4: a nil bus.
func TestNilBus(t *testing.T) {
	var b *bus.Bus
	for _, addr := range edges() {
		checkNone(t, b, addr)
	}
	for _, r := range []bus.Region{at(0, 4), at(1, 4), at(0, 0), at(last, 8)} {
		if e := b.Attach(r, empty{}); e != api.ErrArg {
			t.Error(r, e)
		}
		if e := b.Attach(r, nil); e != api.ErrArg {
			t.Error(r, e)
		}
	}
	if l := b.Regions(); len(l) != 0 {
		t.Error(l)
	}
}

// P3.3: a device whose value is a nil pointer is one, and answers for itself.
func TestDevicesThatAreNilPointers(t *testing.T) {
	b := bus.New()
	attach(t, b, at(0, 4), (*reg.File)(nil))
	attach(t, b, at(4, 4), (*bus.Bus)(nil))
	attach(t, b, at(8, 4), (*witness)(nil))
	for _, addr := range []uint32{0, 4, 8} {
		if v, e := b.Load(addr); v != 0 || e != api.ErrBus {
			t.Error(addr, v, e)
		}
		if e := b.Store(addr, 1); e != api.ErrBus {
			t.Error(addr, e)
		}
	}
}

// fragile panics when it is asked for an offset but 0.
type fragile struct{ list []uint32 }

func (f fragile) Load(off uint32) (uint32, api.Errno) { return f.list[off/4], api.OK }
func (f fragile) Store(off, v uint32) api.Errno       { f.list[off/4] = v; return api.OK }

// P1: no call panics, where a device does; and the bus is as it was.
func TestDevicesThatPanic(t *testing.T) {
	b := bus.New()
	attach(t, b, at(0, 0x100), fragile{[]uint32{7}})
	for i := range uint32(100) {
		if v, e := b.Load(4); v != 0 || e != api.ErrBus {
			t.Error(v, e)
		}
		if e := b.Store(0xfc, 1); e != api.ErrBus {
			t.Error(e)
		}
		if e := b.Store(0, i); e != api.OK {
			t.Error(e)
		}
		if v, e := b.Load(0); v != i || e != api.OK {
			t.Error(v, e)
		}
	}
}

// P3.3: a bus is a device, of itself too: an address that comes down to another device is that one's.
func TestBusOnABus(t *testing.T) {
	w := &witness{v: 5}
	b := bus.New()
	attach(t, b, at(0, 8), w)
	attach(t, b, at(8, 1<<20), b)
	outer := bus.New()
	attach(t, outer, at(0x1000, 1<<20), b)
	for _, deep := range []uint32{0, 1, 2, 1000, 1 << 16} {
		addr := 8*deep + 4
		for range 3 {
			if v, e := b.Load(addr); v != 5 || e != api.OK || len(w.was) != 1 || w.was[0] != (asked{false, 4, 0}) {
				t.Error(deep, v, e, w.was)
			}
			w.was = nil
			if e := outer.Store(0x1000+addr, 9); e != api.OK || len(w.was) != 1 || w.was[0] != (asked{true, 4, 9}) {
				t.Error(deep, e, w.was)
			}
			w.was = nil
		}
	}
}

// P1: every call ends, on a bus that has itself at the address 0 too, and on two that have each other.
func TestBusesThatGoRound(t *testing.T) {
	a, b, c := bus.New(), bus.New(), bus.New()
	attach(t, a, at(0, 0x10), a)
	attach(t, b, at(0, 0x10), c)
	attach(t, c, at(0, 0x10), b)
	for _, x := range []*bus.Bus{a, b, c} {
		attach(t, x, at(0x10, 4), empty{})
		for range 2 {
			if v, e := x.Load(4); v != 0 || e != api.ErrBus {
				t.Error(v, e)
			}
			if e := x.Store(8, 1); e != api.ErrBus {
				t.Error(e)
			}
			if v, e := x.Load(0x10); v != 1 || e != api.OK {
				t.Error(v, e)
			}
			if r, off, e := x.Find(4); r != at(0, 0x10) || off != 4 || e != api.OK {
				t.Error(r, off, e)
			}
		}
	}
}

// plain is a bus as the document's words tell it.
type plain struct {
	regions []bus.Region
	devices []bus.Device
}

func (p *plain) attach(r bus.Region, d bus.Device) api.Errno {
	switch end := uint64(r.Base) + uint64(r.Size); {
	case d == nil:
		return api.ErrArg
	case r.Base%4 != 0 || r.Size%4 != 0:
		return api.ErrAlign
	case r.Size == 0 || end > 1<<32:
		return api.ErrRange
	case len(p.regions) == 64:
		return api.ErrMany
	}
	for _, o := range p.regions {
		if belongs(o, uint64(r.Base)) || belongs(r, uint64(o.Base)) {
			return api.ErrMeet
		}
	}
	p.regions = append(p.regions, r)
	p.devices = append(p.devices, d)
	return api.OK
}

func (p *plain) find(addr uint32) (int, api.Errno) {
	if addr%4 != 0 {
		return 0, api.ErrAlign
	}
	for i, r := range p.regions {
		if belongs(r, uint64(addr)) {
			return i, api.OK
		}
	}
	return 0, api.ErrBus
}

func next(n uint64) uint64 { return n*6364136223846793005 + 1442695040888963407 }

// drawn is a region without a rule: a small one, or a great one, now and then a wrong one.
func drawn(draw func(below uint64) uint32) bus.Region {
	r := at(draw(1<<12), draw(1<<7))
	if draw(2) == 0 {
		r.Base <<= 20
		r.Size <<= draw(24)
	}
	if draw(8) > 0 {
		r.Base, r.Size = r.Base&^3, r.Size&^3
	}
	return r
}

// P3.2 to P3.4, P2: a bus tells what a plain one does, call by call, and the same again.
func TestBusIsAPlainOne(t *testing.T) {
	n := uint64(11)
	draw := func(below uint64) uint32 {
		n = next(n)
		return uint32((n >> 32) % below)
	}
	for range 300 {
		p, b, again := &plain{}, bus.New(), bus.New()
		for range 90 {
			r := drawn(draw)
			var d bus.Device
			if draw(16) > 0 {
				d = &witness{v: draw(1 << 32), e: api.Errno(draw(3) / 2 * 12)}
			}
			if want, e := p.attach(r, d), b.Attach(r, d); e != want || again.Attach(r, d) != want {
				t.Fatal(r, e, want)
			}
			for _, addr := range []uint32{r.Base, r.Base + r.Size, r.Base - 4, r.Base + r.Size - 4, draw(1<<32) &^ 3, draw(1<<13) &^ 3, draw(1 << 32)} {
				checkPlain(t, p, b, addr)
				checkPlain(t, p, again, addr)
			}
		}
		slices.SortFunc(p.regions, func(x, y bus.Region) int { return cmp.Compare(x.Base, y.Base) })
		if !slices.Equal(b.Regions(), p.regions) || !slices.Equal(again.Regions(), p.regions) {
			t.Fatal(b.Regions(), p.regions)
		}
	}
}

func checkPlain(t *testing.T, p *plain, b *bus.Bus, addr uint32) {
	t.Helper()
	i, e := p.find(addr)
	if e != api.OK {
		checkNone(t, b, addr)
		return
	}
	r, w := p.regions[i], p.devices[i].(*witness)
	if got, off, e := b.Find(addr); got != r || off != addr-r.Base || e != api.OK {
		t.Fatal(addr, got, off, e, r)
	}
	want := uint32(0)
	if w.e == api.OK {
		want = w.v
	}
	w.was = nil
	if v, e := b.Load(addr); v != want || e != w.e {
		t.Fatal(addr, v, e, w)
	}
	if e := b.Store(addr, 3); e != w.e || !slices.Equal(w.was, []asked{{false, addr - r.Base, 0}, {true, addr - r.Base, 3}}) {
		t.Fatal(addr, e, w)
	}
}
