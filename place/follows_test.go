package place_test

import (
	"slices"
	"testing"

	"minuterie/place"
)

func TestThePlaceAheadHasTheLessDeadline(t *testing.T) { // P18.3
	all := numbers()
	for _, base := range few() {
		keys := make([]place.Key, len(all))
		for i, d := range all {
			keys[i] = place.Of(base, d)
		}
		for i, x := range keys {
			for j, y := range keys {
				if x != y && place.Less(x, y) != (all[i] < all[j]) {
					t.Fatalf("by %d: %d at %v, %d at %v", base, all[i], x, all[j], y)
				}
			}
		}
	}
}

// move asks what becomes of a deadline's place once the base is a later one.
func move(t *testing.T, base, to, d uint64) {
	t.Helper()
	was, is := place.Of(base, d), place.Of(to, d)
	touched := place.Touched(base, to, was)
	right := false
	switch {
	case was == place.Late():
		right = is == was
	case !touched:
		right = is == was
	case was == place.Far() && is == was:
		right = d/(1<<48) > to/(1<<48)
	default:
		right = place.Less(is, was)
	}
	if !right {
		t.Fatalf("%d from the base %d to %d: %v, then %v, touched: %v", d, base, to, was, is, touched)
	}
}

func TestWhatIsNotTouchedStays(t *testing.T) { // P18.3
	all := few()
	for _, base := range all {
		for _, to := range all {
			for _, d := range all {
				if to > base {
					move(t, base, to, d)
				}
			}
		}
	}
}

func TestWhatIsNotTouchedStaysInSteps(t *testing.T) { // P18.3
	for _, from := range []uint64{0, 1<<12 - 100, 1<<48 - 100, never - 4200} {
		for _, length := range []uint64{1, 7, 63, 64, 65, 700} {
			for base := from; base-from <= 4200-length; base += length {
				for _, d := range []uint64{from, base, base + 1, base + length, base + length + 1, from + 150, from + 4200} {
					move(t, base, base+length, d)
				}
			}
		}
	}
}

// answers calls all there is, and is what they answer, as numbers.
func answers() []uint64 {
	var l []uint64
	tell := func(k place.Key) { l = append(l, uint64(k.Level), uint64(k.Slot)) }
	ask := func(is bool) {
		n := uint64(0)
		if is {
			n = 1
		}
		l = append(l, n)
	}
	tell(place.Late())
	tell(place.Far())
	keys := append(wrong(), place.Late(), place.Far(), place.Key{Level: 3, Slot: 9})
	for _, base := range []uint64{0, 70, 1 << 48, never} {
		for _, d := range few() {
			tell(place.Of(base, d))
		}
		for i, k := range keys {
			first, last, is := place.Span(base, k)
			l = append(l, first, last)
			ask(is)
			ask(place.Right(k))
			ask(place.Touched(base, never, k))
			ask(place.Less(k, keys[len(keys)-1-i]))
		}
	}
	return l
}

func TestEveryCallEndsAndAnswersTheSame(t *testing.T) { // P1, P2
	if !slices.Equal(answers(), answers()) {
		t.Error("the same calls had other answers")
	}
}
