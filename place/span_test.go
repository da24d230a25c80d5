package place_test

import (
	"testing"

	"minuterie/place"
)

// span is the least and the greatest deadline of a place.
type span struct {
	first, last uint64
	is          bool
}

func spanOf(base uint64, k place.Key) span {
	first, last, is := place.Span(base, k)
	return span{first, last, is}
}

func TestNamedSpans(t *testing.T) { // P18.2
	late, far := place.Late(), place.Far()
	for _, x := range []struct {
		base uint64
		k    place.Key
		span span
	}{
		{0, late, span{0, 0, true}}, {70, late, span{0, 70, true}}, {never, late, span{0, never, true}},
		{0, place.Key{Level: 0, Slot: 1}, span{1, 1, true}}, {0, place.Key{Level: 0, Slot: 63}, span{63, 63, true}}, {0, place.Key{Level: 1, Slot: 1}, span{64, 127, true}},
		{70, place.Key{Level: 0, Slot: 5}, span{}}, {70, place.Key{Level: 0, Slot: 6}, span{}}, {70, place.Key{Level: 0, Slot: 7}, span{71, 71, true}},
		{70, place.Key{Level: 1, Slot: 1}, span{}}, {64, place.Key{Level: 1, Slot: 1}, span{}}, {63, place.Key{Level: 1, Slot: 1}, span{64, 127, true}}, {70, place.Key{Level: 1, Slot: 2}, span{128, 191, true}},
		{127, place.Key{Level: 0, Slot: 63}, span{}}, {126, place.Key{Level: 0, Slot: 63}, span{127, 127, true}},
		{1<<48 | 70, place.Key{Level: 7, Slot: 63}, span{1<<48 | 63<<42, 1<<49 - 1, true}}, {1<<48 | 63<<42, place.Key{Level: 7, Slot: 63}, span{}},
		{0, far, span{1 << 48, never, true}}, {1<<48 - 1, far, span{1 << 48, never, true}}, {1 << 48, far, span{1 << 49, never, true}},
		{never - 1<<48, far, span{never - 1<<48 + 1, never, true}}, {never - 1<<48 + 1, far, span{}}, {never - 1, far, span{}}, {never, far, span{}},
		{never - 1, place.Key{Level: 0, Slot: 63}, span{never, never, true}}, {never, place.Key{Level: 0, Slot: 63}, span{}}, {never - 64, place.Key{Level: 1, Slot: 63}, span{never - 63, never, true}},
	} {
		if got := spanOf(x.base, x.k); got != x.span {
			t.Errorf("Span(%d, %v): %v, not %v", x.base, x.k, got, x.span)
		}
	}
}

func TestWhatIsNoPlaceHasNoSpan(t *testing.T) { // P18.2, P1
	for _, base := range few() {
		for _, k := range wrong() {
			if got := spanOf(base, k); got != (span{}) {
				t.Fatalf("Span(%d, %v): %v", base, k, got)
			}
			for _, to := range []uint64{0, base, never} {
				if place.Touched(base, to, k) {
					t.Fatalf("Touched(%d, %d, %v)", base, to, k)
				}
			}
		}
	}
}

// TestSpansOfAllDeadlinesOfAWindow asks each deadline of three whole levels for its place.
func TestSpansOfAllDeadlinesOfAWindow(t *testing.T) { // P18.2
	const size = 64 * 64 * 64
	for _, from := range []uint64{0, size * 777, 1<<48 - size, 5 << 48, never - size + 1} {
		for _, at := range []uint64{0, 70, 4095, 4096, 7*4096 + 9*64 + 63, size - 2, size - 1} {
			base := from + at
			spans := map[place.Key]span{}
			for i := range uint64(size) {
				d := from + i
				k := plain(base, d)
				if s := spans[k]; s.is {
					spans[k] = span{s.first, d, true}
				} else {
					spans[k] = span{d, d, true}
				}
			}
			spans[place.Late()] = span{0, base, true}
			for _, k := range places() {
				if k.Level < 3 && spanOf(base, k) != spans[k] {
					t.Errorf("Span(%d, %v): %v, not %v", base, k, spanOf(base, k), spans[k])
				}
			}
		}
	}
}

// TestSpansMeet asks that each span ends where the next one begins: from 0 to the time's end, no deadline is in none, or in two.
func TestSpansMeet(t *testing.T) { // P18.2, P18.3
	for _, base := range numbers() {
		begin, ended := uint64(0), false
		for _, k := range places() {
			s := spanOf(base, k)
			if !s.is {
				if s != (span{}) {
					t.Fatalf("Span(%d, %v): %v", base, k, s)
				}
				continue
			}
			if ended || s.first != begin || s.last < s.first || plain(base, s.first) != k || plain(base, s.last) != k {
				t.Fatalf("Span(%d, %v): %v, behind what ends ahead of %d", base, k, s, begin)
			}
			begin, ended = s.last+1, s.last == never
		}
		if !ended {
			t.Fatalf("by %d, no place has the deadlines from %d on", base, begin)
		}
	}
}

func TestEachDeadlineIsInItsPlacesSpan(t *testing.T) { // P18.2
	for _, base := range numbers() {
		for _, d := range numbers() {
			if s := spanOf(base, plain(base, d)); !s.is || d < s.first || d > s.last {
				t.Fatalf("by %d, %d isn't in %v", base, d, s)
			}
		}
	}
}

func TestNamedTouches(t *testing.T) { // P18.2
	late, far, two := place.Late(), place.Far(), place.Key{Level: 1, Slot: 2}
	for _, x := range []struct {
		base, to uint64
		k        place.Key
		is       bool
	}{
		{70, 127, two, false}, {70, 128, two, true}, {70, 129, two, true}, {70, 191, two, true}, {70, 192, two, true}, {70, never, two, true}, {70, 0, two, false},
		{128, 128, two, false}, {128, never, two, false}, {192, never, two, false},
		{70, 0, late, true}, {70, 70, late, true}, {0, 0, late, true}, {never, 0, late, true},
		{70, 1<<48 - 1, far, false}, {70, 1 << 48, far, true}, {70, never, far, true}, {never - 1<<48, never - 1<<48, far, false}, {never - 1<<48, never - 1<<48 + 1, far, true}, {never, never, far, false}, {never - 5, never, far, false},
		{70, 71, place.Key{Level: 0, Slot: 7}, true}, {70, 70, place.Key{Level: 0, Slot: 7}, false}, {71, never, place.Key{Level: 0, Slot: 7}, false},
		{never - 1, never - 1, place.Key{Level: 0, Slot: 63}, false}, {never - 1, never, place.Key{Level: 0, Slot: 63}, true},
	} {
		if is := place.Touched(x.base, x.to, x.k); is != x.is {
			t.Errorf("Touched(%d, %d, %v): %v", x.base, x.to, x.k, is)
		}
	}
}

func TestTouchedBesideEachSpansEnds(t *testing.T) { // P18.2
	for _, base := range few() {
		for _, k := range places() {
			s := spanOf(base, k)
			for _, end := range []uint64{0, base, s.first, s.last, never} {
				for _, to := range []uint64{end - 1, end, end + 1} {
					if want := s.is && to >= s.first; place.Touched(base, to, k) != want {
						t.Fatalf("Touched(%d, %d, %v): %v", base, to, k, !want)
					}
				}
			}
		}
	}
}
