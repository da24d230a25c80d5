package wheel_test

import (
	"math/big"
	"testing"

	"minuterie/wheel"
)

func wide(n uint64) *big.Int { return new(big.Int).SetUint64(n) }

// plainAfter reckons by the chapter's words, with numbers that have no end.
func plainAfter(d, period, now uint64) uint64 {
	if d > now {
		return d
	}
	if period == 0 {
		return never
	}
	k := new(big.Int).Div(wide(now-d), wide(period))
	k.Add(k, big.NewInt(1))
	n := k.Mul(k, wide(period))
	n.Add(n, wide(d))
	if !n.IsUint64() {
		return never
	}
	return n.Uint64()
}

func TestAfterIsAboveTheTimeOrNever(t *testing.T) { // P19.2
	for i, x := range []struct{ d, period, now, want uint64 }{
		{10, 5, 9, 10}, {10, 0, 9, 10}, {10, 5, 10, 15}, {10, 5, 14, 15}, {10, 5, 15, 20}, {10, 5, 99, 100}, {10, 5, 100, 105},
		{10, 0, 10, never}, {0, 0, 0, never}, {0, 1, 0, 1}, {0, never, 0, never}, {1, never, 1, never}, {never, 0, never - 1, never},
		{never, 5, never, never}, {0, 1, never, never}, {0, 1, never - 1, never}, {0, 2, never - 1, never}, {0, 2, never - 2, never - 1},
		{0, 1 << 63, 1<<63 - 1, 1 << 63}, {0, 1 << 63, 1 << 63, never}, {never - 1, 1, never - 1, never}, {never - 1, 2, never - 1, never},
	} {
		if n := wheel.After(x.d, x.period, x.now); n != x.want {
			t.Errorf("%d: After(%d, %d, %d) is %d, not %d", i, x.d, x.period, x.now, n, x.want)
		}
	}
}

func TestAfterAgainstNumbersWithoutAnEnd(t *testing.T) { // P19.2, P1, P2
	l := []uint64{0, 1, 2, 3, 5, 63, 64, 65, 1000, 1<<32 - 1, 1 << 32, 1<<63 - 1, 1 << 63, 1<<63 + 1, never / 3, never/3*2 + 1, never - 3, never - 2, never - 1, never}
	for _, d := range l {
		for _, period := range l {
			for _, now := range l {
				n, want := wheel.After(d, period, now), plainAfter(d, period, now)
				if n != want || n != wheel.After(d, period, now) {
					t.Fatalf("After(%d, %d, %d) is %d, not %d", d, period, now, n, want)
				}
			}
		}
	}
}
