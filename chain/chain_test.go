package chain_test

import (
	"math"
	"slices"
	"testing"

	"minuterie/api"
	"minuterie/chain"
)

// spot is a key of two numbers, as a place has them.
type spot struct{ level, slot int }

// rooms are those at which something might turn over.
func rooms() []int { return []int{1, 2, 3, 7, 8, 9, 63, 64, 65, 1000, 4095, 4096} }

// outside are numbers of which no room has a thing.
func outside() []int {
	return []int{math.MinInt, math.MinInt32, -4096, -2, -1, 4096, 4097, 1 << 32, math.MaxInt32, math.MaxInt}
}

func of[K comparable](t *testing.T, room int) *chain.Chains[K] {
	t.Helper()
	c, e := chain.New[K](room)
	if c == nil || e != api.OK {
		t.Fatalf("New(%d): %v, %v", room, c, e)
	}
	return c
}

func push[K comparable](t *testing.T, c *chain.Chains[K], k K, l ...int) {
	t.Helper()
	for _, i := range l {
		if !c.Push(k, i) {
			t.Fatalf("Push(%v, %d): false", k, i)
		}
	}
}

// holds tells whether all that is told of a key is that it has just these things, in this order.
func holds[K comparable](t *testing.T, c *chain.Chains[K], k K, l ...int) {
	t.Helper()
	if got := c.All(k); !slices.Equal(got, l) {
		t.Fatalf("All(%v): %v, not %v", k, got, l)
	}
	if c.Len(k) != len(l) {
		t.Fatalf("Len(%v): %d, not %d", k, c.Len(k), len(l))
	}
	i := c.First(k)
	for _, want := range l {
		if key, is := c.Key(i); i != want || key != k || !is {
			t.Fatalf("of %v: %d of %v, %v, not %d", k, i, key, is, want)
		}
		i = c.Next(i)
	}
	if i != -1 {
		t.Fatalf("of %v: %d is behind the last one", k, i)
	}
}

// free tells whether a thing is in none.
func free[K comparable](t *testing.T, c *chain.Chains[K], l ...int) {
	t.Helper()
	var zero K
	for _, i := range l {
		if k, is := c.Key(i); k != zero || is || c.Next(i) != -1 || c.Remove(i) {
			t.Fatalf("%d is in %v, %v, ahead of %d", i, k, is, c.Next(i))
		}
	}
}

func TestNewRefusesOtherRooms(t *testing.T) { // P17.1, P1
	for _, room := range []int{math.MinInt, math.MinInt32, -4096, -1, 0, 4097, 4098, 8192, 65536, math.MaxInt32, math.MaxInt - 1, math.MaxInt} {
		if c, e := chain.New[spot](room); c != nil || e != api.ErrRange {
			t.Errorf("New(%d): %v, %v", room, c, e)
		}
	}
}

func TestNewHasNoThings(t *testing.T) { // P17.1, P17.2
	for _, room := range rooms() {
		c := of[spot](t, room)
		if c.Total() != 0 {
			t.Errorf("room %d: Total: %d", room, c.Total())
		}
		holds(t, c, spot{})
		for i := range room {
			free(t, c, i)
		}
	}
}

func TestPushHasTheRoomsThingsAlone(t *testing.T) { // P17.1
	for _, room := range rooms() {
		c, k := of[spot](t, room), spot{1, 2}
		for _, i := range append(outside(), room, room+1) {
			if c.Push(k, i) || c.Remove(i) || c.Next(i) != -1 {
				t.Fatalf("room %d has %d", room, i)
			}
			free(t, c, i)
		}
		holds(t, c, k)
		var all []int
		for i := room - 1; i >= 0; i-- {
			push(t, c, k, i)
			all = append(all, i)
		}
		holds(t, c, k, all...)
		if c.Total() != room {
			t.Fatalf("room %d: Total: %d", room, c.Total())
		}
	}
}

func TestPushAppends(t *testing.T) { // P17.1, P17.2
	c, a, b := of[spot](t, 10), spot{1, 2}, spot{2, 1}
	push(t, c, a, 5)
	holds(t, c, a, 5)
	push(t, c, b, 0)
	push(t, c, a, 9)
	push(t, c, b, 1, 7)
	push(t, c, a, 2)
	holds(t, c, a, 5, 9, 2)
	holds(t, c, b, 0, 1, 7)
	holds(t, c, spot{})
	holds(t, c, spot{1, 1})
	free(t, c, 3, 4, 6, 8)
	if c.Total() != 6 {
		t.Errorf("Total: %d", c.Total())
	}
}

func TestAThingIsInOneChainAtMost(t *testing.T) { // P17.1, P17.3
	c, a, b := of[spot](t, 4), spot{1, 2}, spot{2, 1}
	push(t, c, a, 3, 0)
	push(t, c, b, 2)
	for _, i := range []int{3, 0, 2} {
		if c.Push(a, i) || c.Push(b, i) || c.Push(spot{}, i) {
			t.Errorf("Push of %d, which is in one", i)
		}
	}
	holds(t, c, a, 3, 0)
	holds(t, c, b, 2)
	holds(t, c, spot{})
	if c.Total() != 3 {
		t.Errorf("Total: %d", c.Total())
	}
	if !c.Remove(3) {
		t.Error("Remove(3)")
	}
	push(t, c, b, 3)
	holds(t, c, a, 0)
	holds(t, c, b, 2, 3)
}

func TestRemoveKeepsTheOrder(t *testing.T) { // P17.1, P17.3
	for bits := range 32 { // which of five things go
		for _, down := range []bool{false, true} {
			c, k := of[spot](t, 5), spot{3, 3}
			all := []int{4, 1, 0, 3, 2}
			push(t, c, k, all...)
			var gone, left []int
			for at, i := range all {
				if bits>>at&1 == 1 {
					gone = append(gone, i)
				} else {
					left = append(left, i)
				}
			}
			if down {
				slices.Reverse(gone)
			}
			for _, i := range gone {
				if !c.Remove(i) {
					t.Fatalf("Remove(%d)", i)
				}
				free(t, c, i)
			}
			holds(t, c, k, left...)
			if c.Total() != len(left) {
				t.Fatalf("Total: %d, not %d", c.Total(), len(left))
			}
			// They come again, as the last ones.
			push(t, c, k, gone...)
			holds(t, c, k, append(left, gone...)...)
		}
	}
}

func TestRemoveOfNone(t *testing.T) { // P17.1
	c, k := of[spot](t, 4), spot{1, 1}
	push(t, c, k, 0, 2)
	for _, i := range append(outside(), 1, 3, 4, 5) {
		if c.Remove(i) {
			t.Errorf("Remove(%d): it is in none", i)
		}
	}
	holds(t, c, k, 0, 2)
	if c.Total() != 2 {
		t.Errorf("Total: %d", c.Total())
	}
}

func TestTheZeroKeyIsAKey(t *testing.T) { // P17.1
	c := of[spot](t, 2)
	push(t, c, spot{}, 1)
	if k, is := c.Key(1); k != (spot{}) || !is {
		t.Errorf("Key(1): %v, %v", k, is)
	}
	if k, is := c.Key(0); k != (spot{}) || is {
		t.Errorf("Key(0): %v, %v", k, is)
	}
	holds(t, c, spot{}, 1)
}

func TestTake(t *testing.T) { // P17.2, P17.3
	c, a, b := of[spot](t, 8), spot{1, 2}, spot{2, 1}
	push(t, c, a, 6, 1, 4)
	push(t, c, b, 7, 0)
	if l := c.Take(spot{}); len(l) != 0 || c.Total() != 5 {
		t.Errorf("Take of none: %v", l)
	}
	if l := c.Take(a); !slices.Equal(l, []int{6, 1, 4}) || c.Total() != 2 {
		t.Errorf("Take: %v, then %d", l, c.Total())
	}
	holds(t, c, a)
	free(t, c, 6, 1, 4)
	holds(t, c, b, 7, 0)
	if l := c.Take(a); len(l) != 0 {
		t.Errorf("Take again: %v", l)
	}
	push(t, c, b, 4)
	push(t, c, a, 1, 6)
	holds(t, c, b, 7, 0, 4)
	holds(t, c, a, 1, 6)
}

func TestAnswersAreNewMemory(t *testing.T) { // P17.2
	c, k := of[spot](t, 6), spot{1, 2}
	push(t, c, k, 5, 3, 1)
	l, other := c.All(k), c.All(k)
	l[0] = 0
	_ = append(l[:1], 2)
	holds(t, c, k, 5, 3, 1)
	if !slices.Equal(other, []int{5, 3, 1}) {
		t.Errorf("All: %v", other)
	}
	l = c.Take(k)
	push(t, c, k, 1, 3)
	l[1] = 7
	holds(t, c, k, 1, 3)
}

func TestManyChainsComeAndGo(t *testing.T) { // P17.1, P17.2
	c := of[spot](t, 4096)
	for round := range 3 {
		for i := range 4096 {
			push(t, c, spot{i % 600, round}, i)
		}
		for n := range 600 {
			var want []int
			for i := n; i < 4096; i += 600 {
				want = append(want, i)
			}
			holds(t, c, spot{n, round}, want...)
			holds(t, c, spot{n, round - 1})
		}
		for i := 4095; i >= 0; i-- {
			if !c.Remove(i) || c.Total() != i {
				t.Fatalf("Remove(%d), then %d", i, c.Total())
			}
		}
	}
}

func TestCopyIsTheSame(t *testing.T) { // P17.2
	for _, room := range rooms() {
		c := of[int](t, room)
		// The odd ones come first, from the last one on, so that no chain is in its numbers' order.
		for _, odd := range []int{1, 0} {
			for i := room - 1; i >= 0; i-- {
				if i%2 == odd {
					push(t, c, i%3, i)
				}
			}
		}
		for i := 0; i < room; i += 4 {
			c.Remove(i)
		}
		d := c.Copy()
		if d == c || d.Total() != c.Total() {
			t.Fatalf("room %d: Copy: %d things, not %d", room, d.Total(), c.Total())
		}
		for k := range 4 {
			holds(t, d, k, c.All(k)...)
		}
		for i := range room {
			k, is := c.Key(i)
			if l, are := d.Key(i); l != k || are != is || d.Next(i) != c.Next(i) {
				t.Fatalf("room %d: thing %d is elsewhere", room, i)
			}
		}
		if d.Push(0, room) {
			t.Fatalf("room %d: Copy has more room", room)
		}
		for i := 0; i < room; i += 4 {
			push(t, d, 0, i)
		}
	}
}

func TestCopySharesNothing(t *testing.T) { // P17.2
	a, b := spot{1, 2}, spot{2, 1}
	change := func(c *chain.Chains[spot]) {
		c.Remove(0)
		push(t, c, b, 0, 5)
		push(t, c, a, 6)
		c.Remove(4)
		push(t, c, spot{}, 4)
	}
	changed := func(c *chain.Chains[spot]) {
		holds(t, c, a, 2, 3, 6)
		holds(t, c, b, 1, 0, 5)
		holds(t, c, spot{}, 4)
		if c.Total() != 7 {
			t.Fatalf("Total: %d", c.Total())
		}
	}
	fresh := func(c *chain.Chains[spot]) {
		holds(t, c, a, 2, 0, 3, 4)
		holds(t, c, b, 1)
		holds(t, c, spot{})
		free(t, c, 5, 6)
		if c.Total() != 5 {
			t.Fatalf("Total: %d", c.Total())
		}
	}
	for range 2 {
		c := of[spot](t, 7)
		push(t, c, a, 2, 0, 3, 4)
		push(t, c, b, 1)
		d := c.Copy()
		change(c)
		changed(c)
		fresh(d)
		e := d.Copy()
		change(e)
		changed(e)
		fresh(d)
		change(d)
		changed(d)
		changed(c)
		d.Take(a)
		d.Take(b)
		changed(c)
		changed(e)
	}
}

func TestNilChains(t *testing.T) { // P17.3, P1
	var c *chain.Chains[spot]
	for _, k := range []spot{{}, {1, 2}} {
		if c.First(k) != -1 || len(c.All(k)) != 0 || len(c.Take(k)) != 0 || c.Len(k) != 0 {
			t.Errorf("nil chains have %v", k)
		}
		for _, i := range append(outside(), 0, 1, 4095) {
			if c.Push(k, i) {
				t.Errorf("Push(%v, %d)", k, i)
			}
			free(t, c, i)
		}
	}
	if c.Total() != 0 || c.Copy() != nil {
		t.Error("nil chains have something")
	}
	var d *chain.Chains[any]
	if d.Push([]int{1}, 0) || d.First([]int{1}) != -1 || len(d.All([]int{1})) != 0 || len(d.Take([]int{1})) != 0 || d.Len([]int{1}) != 0 {
		t.Error("nil chains have a list as a key")
	}
}

func TestCallsOfZeroChainsEnd(t *testing.T) { // P1: calls of a zero value end, too
	c := &chain.Chains[spot]{}
	for _, i := range append(outside(), 0, 1) {
		c.Push(spot{}, i)
		c.Remove(i)
		c.Key(i)
		c.Next(i)
	}
	c.First(spot{})
	c.All(spot{})
	c.Take(spot{})
	c.Len(spot{})
	c.Total()
	c.Copy().Push(spot{}, 0)
}

func TestTheChaptersExample(t *testing.T) { // P17.1, P17.2
	c := of[string](t, 4)
	push(t, c, "a", 3, 1)
	push(t, c, "b", 2)
	holds(t, c, "a", 3, 1)
	if !c.Remove(3) {
		t.Error("Remove(3)")
	}
	holds(t, c, "a", 1)
	if c.Push("b", 1) {
		t.Error("Push(b, 1): it is a's")
	}
}
