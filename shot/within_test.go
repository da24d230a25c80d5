package shot

import (
	"testing"

	"minuterie/api"
	"minuterie/board"
)

const greatest = 1<<32 - 1

// edges are halves' least and greatest numbers, and some between.
func edges() []uint64 {
	halves := []uint64{0, 1, 2, 1<<31 - 1, 1 << 31, greatest - 1, greatest}
	l := []uint64{}
	for _, upper := range halves {
		for _, lower := range halves {
			l = append(l, upper<<32|lower)
		}
	}
	return l
}

func boardOf(t *testing.T, hart int, n uint64) *board.Board {
	t.Helper()
	b, e := board.New(board.Config{Harts: 8, Counts: 1, Div: 1})
	if e != api.OK {
		t.Fatal(e)
	}
	at := way{hart: hart}.at()
	b.Store(at, uint32(n))
	b.Store(at+4, uint32(n>>32))
	if b.Compare(hart) != n {
		t.Fatal(hart, b.Compare(hart), n)
	}
	return b
}

// P14.3: at no time between its stores is the comparator less than both the deadline and what it was. No other layer can look there, so it is done by a store that looks.
func TestNoFalseAlarmWithin(t *testing.T) {
	for hart := range 8 {
		for _, was := range edges() {
			b := boardOf(t, hart, was)
			ahead := was
			for _, d := range edges() {
				seen := []uint64{}
				look := func(addr, v uint32) api.Errno {
					e := b.Store(addr, v)
					seen = append(seen, b.Compare(hart))
					return e
				}
				if e := storer(look).arm(way{hart: hart}.at(), d); e != api.OK || len(seen) != 3 {
					t.Fatal(hart, ahead, d, e, seen)
				}
				for _, c := range seen {
					if c < d && c < ahead {
						t.Fatal(hart, ahead, d, seen)
					}
				}
				if want := [3]uint64{ahead | greatest, d | greatest, d}; [3]uint64(seen) != want {
					t.Fatal(hart, ahead, d, seen)
				}
				ahead = d
			}
		}
	}
}

// P14.1, P14.2: what is stored, and where; the first store that has an error is the last one, and its error is told, whatever that is.
func TestStores(t *testing.T) {
	const d = 1<<40 | 9
	places := [3]uint32{0x2004018, 0x200401c, 0x2004018}
	for _, answer := range []api.Errno{api.ErrArg, api.ErrBus, api.ErrRead, api.ErrDown} {
		for n := range 4 {
			made := 0
			store := func(addr, v uint32) api.Errno {
				if addr != places[made] || v != Words(d)[made] {
					t.Errorf("%d: %x, %x", made, addr, v)
				}
				made++
				if made == n+1 {
					return answer
				}
				return api.OK
			}
			e := storer(store).arm(way{hart: 3}.at(), d)
			if n < 3 && (e != answer || made != n+1) || n == 3 && (e != api.OK || made != 3) {
				t.Error(n, e, made)
			}
		}
	}
}
