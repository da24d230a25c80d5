package place_test

import (
	"math"
	"slices"
	"testing"

	"minuterie/api"
	"minuterie/place"
)

const never = uint64(api.Never)

func next(n uint64) uint64 { return n*6364136223846793005 + 1442695040888963407 }

// few are numbers at which each level's digits turn over, and some without a rule.
func few() []uint64 {
	l := []uint64{0, 5, 70, never - 1, never}
	for at := api.Bits; at <= 48; at += api.Bits {
		l = append(l, 1<<at-1, 1<<at, 1<<at+1, never-1<<at, never-1<<at+1, 37<<at, 37<<at+1<<at-1)
	}
	n := uint64(18)
	for size := range 12 {
		n = next(n)
		l = append(l, n>>(5*size))
	}
	return l
}

// numbers are those, the powers of two with those beside them, and more without a rule, some of which differ in their lower digits alone.
func numbers() []uint64 {
	l := few()
	n := uint64(81)
	for at := range 64 {
		n = next(n)
		p := uint64(1) << at
		l = append(l, p, p-1, p+1, never-p, n>>at, 3<<60|n%p, 1<<48|n%p)
	}
	slices.Sort(l)
	return slices.Compact(l)
}

// places are all there are, in their order.
func places() []place.Key {
	l := []place.Key{{Level: -1, Slot: 0}}
	for level := range 8 {
		for slot := 1; slot <= 63; slot++ {
			l = append(l, place.Key{Level: level, Slot: slot})
		}
	}
	return append(l, place.Key{Level: 8, Slot: 0})
}

// edges are numbers within and without the levels and slots.
func edges() []int {
	return []int{math.MinInt, math.MinInt/6 - 1, math.MinInt32, -65, -64, -8, -2, -1, 0, 1, 5, 6, 7, 8, 9, 10, 31, 32, 33, 62, 63, 64, 65, 71, 127, 128, 129, 255, 256, math.MaxInt32, math.MaxInt/6 + 1, math.MaxInt/6 + 2, math.MaxInt - 1, math.MaxInt}
}

func isPlace(level, slot int) bool {
	if level == -1 || level == 8 {
		return slot == 0
	}
	return level >= 0 && level <= 7 && slot >= 1 && slot <= 63
}

// wrong are keys that aren't places.
func wrong() []place.Key {
	var l []place.Key
	for _, level := range edges() {
		for _, slot := range edges() {
			if !isPlace(level, slot) {
				l = append(l, place.Key{Level: level, Slot: slot})
			}
		}
	}
	return l
}

// plain is a place by what isn't the same any more once both are divided.
func plain(base, d uint64) place.Key {
	if d <= base {
		return place.Key{Level: -1, Slot: 0}
	}
	for level, size := 0, uint64(1); level < 8; level, size = level+1, size*64 {
		if base/size/64 == d/size/64 {
			return place.Key{Level: level, Slot: int(d / size % 64)}
		}
	}
	return place.Key{Level: 8, Slot: 0}
}

func TestLateAndFar(t *testing.T) { // P18.1
	if k := place.Late(); k != (place.Key{Level: -1, Slot: 0}) {
		t.Error("Late:", k)
	}
	if k := place.Far(); k != (place.Key{Level: 8, Slot: 0}) {
		t.Error("Far:", k)
	}
}

func TestOfNamedDeadlines(t *testing.T) { // P18.1
	late, far := place.Key{Level: -1, Slot: 0}, place.Key{Level: 8, Slot: 0}
	for _, x := range []struct {
		base, d uint64
		k       place.Key
	}{
		{0, 0, late}, {0, 1, place.Key{Level: 0, Slot: 1}}, {0, 63, place.Key{Level: 0, Slot: 63}}, {0, 64, place.Key{Level: 1, Slot: 1}},
		{70, 0, late}, {70, 64, late}, {70, 69, late}, {70, 70, late}, {70, 71, place.Key{Level: 0, Slot: 7}}, {70, 127, place.Key{Level: 0, Slot: 63}}, {70, 128, place.Key{Level: 1, Slot: 2}},
		{0, 4095, place.Key{Level: 1, Slot: 63}}, {0, 4096, place.Key{Level: 2, Slot: 1}}, {4095, 4096, place.Key{Level: 2, Slot: 1}}, {4096, 4097, place.Key{Level: 0, Slot: 1}},
		{1<<42 - 1, 1 << 42, place.Key{Level: 7, Slot: 1}}, {1 << 42, 1<<48 - 1, place.Key{Level: 7, Slot: 63}}, {0, 1<<42 - 1, place.Key{Level: 6, Slot: 63}},
		{0, 1 << 48, far}, {1<<48 - 1, 1 << 48, far}, {1 << 48, 1 << 48, late}, {1 << 48, 1<<49 - 1, place.Key{Level: 7, Slot: 63}}, {1 << 48, 1 << 49, far},
		// The rest's lowest six bits, which layer 1 tells as the digit of level 8, are no slot.
		{0, 63 << 48, far}, {0, 64 << 48, far}, {0, never, far}, {never - 1<<48, never, far}, {never - 1<<48 + 1, never, place.Key{Level: 7, Slot: 63}},
		{never - 1, never, place.Key{Level: 0, Slot: 63}}, {never, never, late}, {never, 0, late}, {never, never - 1, late},
	} {
		if k := place.Of(x.base, x.d); k != x.k {
			t.Errorf("Of(%d, %d): %v, not %v", x.base, x.d, k, x.k)
		}
	}
}

func TestOfAllPairs(t *testing.T) { // P18.1
	for _, base := range numbers() {
		for _, d := range numbers() {
			k := place.Of(base, d)
			if k != plain(base, d) || !place.Right(k) {
				t.Fatalf("Of(%d, %d): %v, not %v", base, d, k, plain(base, d))
			}
			if is := k == place.Late(); is != (d <= base) {
				t.Fatalf("Of(%d, %d): %v", base, d, k)
			}
		}
	}
}

func TestRight(t *testing.T) { // P18.1, P1
	for level := -3; level <= 11; level++ {
		for slot := -66; slot <= 130; slot++ {
			if k := (place.Key{Level: level, Slot: slot}); place.Right(k) != isPlace(level, slot) {
				t.Errorf("Right(%v): %v", k, place.Right(k))
			}
		}
	}
	for _, k := range wrong() {
		if place.Right(k) {
			t.Errorf("Right(%v)", k)
		}
	}
	for _, k := range places() {
		if !place.Right(k) {
			t.Errorf("Right(%v): false", k)
		}
	}
}

func TestRightIsWhatSomeDeadlineHas(t *testing.T) { // P18.1
	for _, k := range places() {
		size := uint64(math.Ldexp(1, 6*max(k.Level, 0)))
		d := size * uint64(max(k.Slot, 0))
		if k == place.Far() {
			d = size
		}
		if place.Of(0, d) != k {
			t.Errorf("Of(0, %d): %v, not %v", d, place.Of(0, d), k)
		}
	}
}

func TestLessByLevelsThenBySlots(t *testing.T) { // P18.1
	all := places()
	for i, a := range all {
		for j, b := range all {
			if place.Less(a, b) != (i < j) {
				t.Fatalf("Less(%v, %v): %v", a, b, place.Less(a, b))
			}
		}
	}
}

func TestLessOfAllNumbers(t *testing.T) { // P18.1, P1
	for i, level := range edges() {
		for j, slot := range edges() {
			a := place.Key{Level: level, Slot: slot}
			for m, level := range edges() {
				for n, slot := range edges() {
					b := place.Key{Level: level, Slot: slot}
					if want := i < m || i == m && j < n; place.Less(a, b) != want {
						t.Fatalf("Less(%v, %v): %v", a, b, !want)
					}
				}
			}
		}
	}
}

func TestTheChaptersExample(t *testing.T) { // P18.1, P18.2
	for _, x := range []struct {
		base, d uint64
		k       place.Key
	}{{0, 0, place.Late()}, {0, 63, place.Key{Level: 0, Slot: 63}}, {0, 64, place.Key{Level: 1, Slot: 1}}, {70, 64, place.Late()}, {0, 1 << 48, place.Far()}} {
		if k := place.Of(x.base, x.d); k != x.k {
			t.Errorf("Of(%d, %d): %v", x.base, x.d, k)
		}
	}
	if first, last, is := place.Span(0, place.Key{Level: 1, Slot: 1}); first != 64 || last != 127 || !is {
		t.Errorf("Span(0, (1, 1)): %d to %d, %v", first, last, is)
	}
}
