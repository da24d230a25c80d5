package occ_test

import (
	"math"
	"slices"
	"testing"

	"minuterie/api"
	"minuterie/occ"
)

func next(n uint64) uint64 { return n*6364136223846793005 + 1442695040888963407 }

func of(l ...[2]int) occ.Map {
	var m occ.Map
	for _, x := range l {
		m = occ.Set(m, x[0], x[1])
	}
	return m
}

func full() occ.Map {
	var m occ.Map
	for level := range m {
		m[level] = math.MaxUint64
	}
	return m
}

// maps are those at which something turns over, and some without a rule, with few and with many taken slots.
func maps() []occ.Map {
	l := []occ.Map{{}, full(), of([2]int{0, 0}), of([2]int{7, 63}), of([2]int{0, 63}, [2]int{7, 0}), {1, 2, 4, 8, 16, 32, 64, 128}}
	n := uint64(3)
	for range 6 {
		var many, few occ.Map
		for level := range many {
			n = next(n)
			many[level] = n ^ n>>29
			few[level] = many[level] & (n >> 7) & (n << 11) & (n >> 23)
		}
		l = append(l, many, few)
	}
	return l
}

// edges are numbers within and without the levels and slots.
func edges() []int {
	return []int{math.MinInt, math.MinInt32, -65, -64, -8, -1, 0, 1, 5, 6, 7, 8, 9, 31, 32, 33, 62, 63, 64, 65, 71, 127, 128, 255, 256, math.MaxInt32, math.MaxInt - 1, math.MaxInt}
}

func within(level, slot int) bool { return level >= 0 && level <= 7 && slot >= 0 && slot <= 63 }

// isTaken asks the word of the level itself.
func isTaken(m occ.Map, level, slot int) bool {
	return within(level, slot) && m[level]/(1<<slot)%2 == 1
}

func TestAMapHasAWordForEachLevel(t *testing.T) { // P15.1
	for level := range api.Levels {
		for slot := range api.Slots {
			var want occ.Map
			want[level] = uint64(math.Ldexp(1, slot))
			if m := occ.Set(occ.Map{}, level, slot); m != want {
				t.Fatalf("Set at (%d, %d): %x", level, slot, m)
			}
			if m := occ.Drop(want, level, slot); m != (occ.Map{}) {
				t.Fatalf("Drop at (%d, %d): %x", level, slot, m)
			}
			all := full()
			all[level] -= want[level]
			if m := occ.Drop(full(), level, slot); m != all {
				t.Fatalf("Drop of all at (%d, %d): %x", level, slot, m)
			}
			if m := occ.Set(all, level, slot); m != full() {
				t.Fatalf("Set of the last one at (%d, %d): %x", level, slot, m)
			}
			if !occ.Has(want, level, slot) || occ.Has(all, level, slot) {
				t.Fatalf("Has at (%d, %d)", level, slot)
			}
		}
	}
}

func TestSetDropAndHasAtAllNumbers(t *testing.T) { // P15.1, P15.3, P1
	for _, m := range maps() {
		for _, level := range edges() {
			for _, slot := range edges() {
				set, drop := occ.Set(m, level, slot), occ.Drop(m, level, slot)
				if !within(level, slot) && (set != m || drop != m || occ.Has(m, level, slot)) {
					t.Fatalf("%x at (%d, %d): %x, %x, %v", m, level, slot, set, drop, occ.Has(m, level, slot))
				}
				if occ.Has(m, level, slot) != isTaken(m, level, slot) {
					t.Fatalf("Has(%x, %d, %d)", m, level, slot)
				}
			}
		}
	}
}

func TestSetAndDropChangeNoOther(t *testing.T) { // P15.3
	for _, m := range maps() {
		for level := range api.Levels {
			for slot := range api.Slots {
				set, drop := occ.Set(m, level, slot), occ.Drop(m, level, slot)
				for k := range api.Levels {
					for s := range api.Slots {
						here := k == level && s == slot
						was := isTaken(m, k, s)
						if occ.Has(set, k, s) != (was || here) || occ.Has(drop, k, s) != (was && !here) {
							t.Fatalf("%x, set and dropped at (%d, %d): wrong at (%d, %d)", m, level, slot, k, s)
						}
					}
				}
			}
		}
	}
}

func TestSetAndDropTwice(t *testing.T) { // P15.1, P15.3
	for _, m := range maps() {
		for level := range api.Levels {
			for slot := range api.Slots {
				set, drop := occ.Set(m, level, slot), occ.Drop(m, level, slot)
				if occ.Set(set, level, slot) != set || occ.Drop(drop, level, slot) != drop {
					t.Fatalf("%x, twice at (%d, %d)", m, level, slot)
				}
				if occ.Set(drop, level, slot) != set || occ.Drop(set, level, slot) != drop {
					t.Fatalf("%x, to and fro at (%d, %d)", m, level, slot)
				}
			}
		}
	}
}

func TestWhatIsHandedInStays(t *testing.T) { // P15.1, P15.2
	for _, m := range maps() {
		was := m
		occ.Set(m, 3, 9)
		occ.Drop(m, 3, 9)
		occ.Next(m, 3, 0)
		occ.Lowest(m)
		occ.All(m)
		l := []occ.Map{m, full(), {}}
		occ.Or(l...)
		if m != was || l[0] != was || l[1] != full() || l[2] != (occ.Map{}) {
			t.Fatalf("%x was changed: %x, %x", was, m, l)
		}
	}
}

func TestNext(t *testing.T) { // P15.1, P1
	for _, m := range maps() {
		for _, level := range edges() {
			for _, from := range append(edges(), 2, 3, 4, 20, 40, 50, 60, 61) {
				want := -1
				for slot := 63; slot >= 0; slot-- {
					if slot >= from && isTaken(m, level, slot) {
						want = slot
					}
				}
				if got := occ.Next(m, level, from); got != want {
					t.Fatalf("Next(%x, %d, %d): %d, not %d", m, level, from, got, want)
				}
			}
		}
	}
}

func TestNextAtItsEdges(t *testing.T) { // P15.1
	m := of([2]int{3, 9}, [2]int{3, 63}, [2]int{7, 0})
	for _, x := range [][3]int{
		{3, 0, 9}, {3, -1, 9}, {3, math.MinInt, 9}, {3, 9, 9}, {3, 10, 63}, {3, 63, 63}, {3, 64, -1}, {3, math.MaxInt, -1},
		{7, -5, 0}, {7, 0, 0}, {7, 1, -1}, {0, 0, -1}, {2, 0, -1}, {4, 0, -1},
		{8, 0, -1}, {-1, 0, -1}, {math.MaxInt, 0, -1}, {math.MinInt, 0, -1},
	} {
		if got := occ.Next(m, x[0], x[1]); got != x[2] {
			t.Errorf("Next at %d from %d: %d, not %d", x[0], x[1], got, x[2])
		}
	}
}

// listed are the taken slots, by levels, then by slots.
func listed(m occ.Map) [][2]int {
	var l [][2]int
	for level := range 8 {
		for slot := range 64 {
			if isTaken(m, level, slot) {
				l = append(l, [2]int{level, slot})
			}
		}
	}
	return l
}

func TestLowestCountAndAll(t *testing.T) { // P15.2
	for _, m := range maps() {
		want := listed(m)
		if l := occ.All(m); !slices.Equal(l, want) {
			t.Fatalf("All(%x): %v, not %v", m, l, want)
		}
		if n := occ.Count(m); n != len(want) {
			t.Fatalf("Count(%x): %d, not %d", m, n, len(want))
		}
		lowest := [2]int{-1, -1}
		if len(want) > 0 {
			lowest = want[0]
		}
		if level, slot := occ.Lowest(m); level != lowest[0] || slot != lowest[1] {
			t.Fatalf("Lowest(%x): %d, %d, not %v", m, level, slot, lowest)
		}
	}
}

func TestAMapWithoutATakenSlot(t *testing.T) { // P15.2
	for _, m := range []occ.Map{{}, occ.Drop(of([2]int{4, 40}), 4, 40)} {
		if level, slot := occ.Lowest(m); level != -1 || slot != -1 {
			t.Errorf("Lowest: %d, %d", level, slot)
		}
		if n := occ.Count(m); n != 0 {
			t.Errorf("Count: %d", n)
		}
		if l := occ.All(m); len(l) != 0 {
			t.Errorf("All: %v", l)
		}
	}
}

func TestEachSlotAlone(t *testing.T) { // P15.2
	for level := range api.Levels {
		for slot := range api.Slots {
			m := of([2]int{level, slot})
			k, s := occ.Lowest(m)
			if k != level || s != slot || occ.Count(m) != 1 || !slices.Equal(occ.All(m), [][2]int{{level, slot}}) {
				t.Fatalf("(%d, %d) alone: Lowest %d, %d, Count %d, All %v", level, slot, k, s, occ.Count(m), occ.All(m))
			}
		}
	}
}

func TestALowerLevelIsAheadOfALowerSlot(t *testing.T) { // P15.2
	m := of([2]int{6, 0}, [2]int{1, 63}, [2]int{1, 62})
	if level, slot := occ.Lowest(m); level != 1 || slot != 62 {
		t.Errorf("Lowest: %d, %d", level, slot)
	}
	if l := occ.All(m); !slices.Equal(l, [][2]int{{1, 62}, {1, 63}, {6, 0}}) {
		t.Errorf("All: %v", l)
	}
}

func TestAllSlotsAreTaken(t *testing.T) { // P15.2
	if n := occ.Count(full()); n != 512 {
		t.Errorf("Count: %d", n)
	}
	if l := occ.All(full()); len(l) != 512 || l[0] != [2]int{0, 0} || l[511] != [2]int{7, 63} {
		t.Errorf("All: %d", len(l))
	}
}

func TestAllIsNewMemory(t *testing.T) { // P15.2
	m := of([2]int{2, 5}, [2]int{1, 63})
	l, other := occ.All(m), occ.All(m)
	l[0] = [2]int{7, 7}
	_ = append(l[:1], [2]int{6, 6})
	if want := [][2]int{{1, 63}, {2, 5}}; !slices.Equal(other, want) || !slices.Equal(occ.All(m), want) {
		t.Errorf("%v, %v", other, occ.All(m))
	}
}

func TestOr(t *testing.T) { // P15.2
	l := maps()
	for _, a := range l {
		if occ.Or(a) != a || occ.Or(a, a) != a || occ.Or(a, occ.Map{}) != a || occ.Or(occ.Map{}, a) != a || occ.Or(a, full()) != full() {
			t.Fatalf("Or of %x", a)
		}
		for _, b := range l {
			either := occ.Or(a, b)
			if occ.Or(b, a) != either {
				t.Fatalf("Or(%x, %x) is another one, the other way round", a, b)
			}
			for level := range 8 {
				for slot := range 64 {
					if occ.Has(either, level, slot) != (isTaken(a, level, slot) || isTaken(b, level, slot)) {
						t.Fatalf("Or(%x, %x) at (%d, %d)", a, b, level, slot)
					}
				}
			}
		}
	}
}

func TestOrOfNoneAndOfMany(t *testing.T) { // P15.2
	if occ.Or() != (occ.Map{}) || occ.Or([]occ.Map{}...) != (occ.Map{}) || occ.Or(occ.Map{}, occ.Map{}) != (occ.Map{}) {
		t.Error("Or of none has something")
	}
	var l []occ.Map
	for level := range api.Levels {
		for slot := range api.Slots {
			l = append(l, of([2]int{level, slot}))
		}
	}
	if occ.Or(l...) != full() {
		t.Errorf("Or of each slot alone: %x", occ.Or(l...))
	}
	if m := occ.Or(of([2]int{1, 1}), of([2]int{2, 2}), of([2]int{3, 3})); m != of([2]int{1, 1}, [2]int{2, 2}, [2]int{3, 3}) {
		t.Errorf("Or of three: %x", m)
	}
}

func TestTheChaptersExample(t *testing.T) { // P15.1, P15.2
	m := occ.Set(occ.Set(occ.Map{}, 2, 5), 1, 63)
	if level, slot := occ.Lowest(m); level != 1 || slot != 63 {
		t.Errorf("Lowest: %d, %d", level, slot)
	}
	if n := occ.Count(m); n != 2 {
		t.Errorf("Count: %d", n)
	}
	if n := occ.Next(m, 2, 6); n != -1 {
		t.Errorf("Next: %d", n)
	}
}

// told is all that a map tells.
func told(m occ.Map, level, from int) []int {
	k, s := occ.Lowest(m)
	l := []int{k, s, occ.Count(m), occ.Next(m, level, from)}
	for _, x := range occ.All(m) {
		l = append(l, x[0], x[1])
	}
	return l
}

// TestAgainstAPlainSet does the same to a map and to a plain set of pairs, call by call.
func TestAgainstAPlainSet(t *testing.T) { // P15.1 to P15.3, P1, P2
	run := func(seed uint64) (occ.Map, []int) {
		n := seed
		below := func(k int) int {
			n = next(n)
			return int(n >> 33 % uint64(k))
		}
		var m occ.Map
		plain := map[[2]int]bool{}
		var all []int
		for step := range 4000 {
			level, slot := below(10)-1, below(66)-1
			// There is now more, now less.
			if below(10) < 3+step/800%2*4 {
				m = occ.Set(m, level, slot)
				if within(level, slot) {
					plain[[2]int{level, slot}] = true
				}
			} else {
				m = occ.Drop(m, level, slot)
				delete(plain, [2]int{level, slot})
			}
			if occ.Has(m, level, slot) != plain[[2]int{level, slot}] {
				t.Fatalf("step %d: Has(%d, %d)", step, level, slot)
			}
			if step%16 == 0 {
				for k := range 8 {
					for s := range 64 {
						if occ.Has(m, k, s) != plain[[2]int{k, s}] {
							t.Fatalf("step %d: at (%d, %d)", step, k, s)
						}
					}
				}
			}
			all = append(all, told(m, level, slot)...)
			if occ.Count(m) != len(plain) {
				t.Fatalf("step %d: Count %d, not %d", step, occ.Count(m), len(plain))
			}
		}
		return m, all
	}
	for seed := range uint64(4) {
		m, all := run(seed)
		again, allAgain := run(seed)
		if m != again || !slices.Equal(all, allAgain) {
			t.Errorf("seed %d: the same calls have other answers", seed)
		}
	}
}
