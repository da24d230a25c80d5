package chain_test

import (
	"math"
	"slices"
	"testing"

	"minuterie/chain"
)

// keysOf looks whether chains of some type's keys, all of which are others, stay apart.
func keysOf[K comparable](t *testing.T, keys ...K) {
	t.Helper()
	n := len(keys)
	c := of[K](t, 3*n)
	for round := range 3 {
		for at, k := range keys {
			push(t, c, k, 3*at+2-round)
		}
	}
	check := func(c *chain.Chains[K]) {
		for at, k := range keys {
			holds(t, c, k, 3*at+2, 3*at+1, 3*at)
		}
		if c.Total() != 3*n {
			t.Fatalf("Total: %d", c.Total())
		}
	}
	check(c)
	check(c.Copy())
	for at, k := range keys {
		if l := c.Take(k); !slices.Equal(l, []int{3*at + 2, 3*at + 1, 3 * at}) {
			t.Fatalf("Take(%v): %v", k, l)
		}
		free(t, c, 3*at, 3*at+1, 3*at+2)
	}
	if c.Total() != 0 {
		t.Fatalf("Total: %d", c.Total())
	}
}

func TestKeysOfAllTypes(t *testing.T) { // P17.1, P17.2
	type deep struct {
		name string
		at   [2]spot
	}
	one, other := new(int), new(int)
	keysOf(t, -1, 0, 1, math.MaxInt, math.MinInt)
	keysOf(t, uint64(0), 1, 1<<63, math.MaxUint64)
	keysOf(t, "", "a", "b", "ab", "a\x00")
	keysOf(t, false, true)
	keysOf(t, struct{}{})
	keysOf(t, spot{}, spot{0, 1}, spot{1, 0}, spot{1, 1})
	keysOf(t, [2]uint64{}, [2]uint64{0, 1}, [2]uint64{1, 0})
	keysOf(t, deep{}, deep{name: "a"}, deep{at: [2]spot{{}, {0, 1}}}, deep{at: [2]spot{{0, 1}, {}}})
	keysOf(t, nil, one, other)
	keysOf(t, 0, 0.5, -0.5, math.Inf(1), math.Inf(-1))
	keysOf[any](t, nil, 0, uint64(0), "", "0", spot{}, [1]int{}, one, error(nil) == nil, 0.5)
}

func TestEqualKeysAreOne(t *testing.T) { // P17.1, P17.2
	c := of[any](t, 4)
	push[any](t, c, "ab", 0)
	push[any](t, c, string([]byte{'a', 'b'}), 1)
	holds[any](t, c, "ab", 0, 1)
	d := of[float64](t, 4)
	push(t, d, math.Copysign(0, -1), 3)
	push(t, d, 0, 2)
	holds(t, d, 0, 3, 2)
	holds(t, d, math.Copysign(0, -1), 3, 2)
}

// wrong are keys of an interface's type whose values can't be compared.
func wrong() []any {
	return []any{[]int{1}, []int(nil), map[int]int{}, func() {}, struct{ l []int }{}, [1][]int{}, struct{ n, k any }{math.NaN(), []int{}}, [2]any{1, []int{}}}
}

func TestKeysThatCannotBeCompared(t *testing.T) { // P17.1, P17.2, P1: no call panics, and there is no such chain
	for _, many := range []int{0, 1, 8, 9, 100} {
		c := of[any](t, 128)
		for i := range many {
			push[any](t, c, i, i)
		}
		for n, k := range wrong() {
			if c.Push(k, 120) || c.Push(k, 0) || c.First(k) != -1 || len(c.All(k)) != 0 || len(c.Take(k)) != 0 || c.Len(k) != 0 {
				t.Fatalf("of %d: there is a chain of wrong key %d", many, n)
			}
		}
		free(t, c, 120)
		if c.Total() != many {
			t.Fatalf("Total: %d, not %d", c.Total(), many)
		}
		for i := range many {
			holds[any](t, c, i, i)
		}
		push[any](t, c, "a", 120, 121)
		holds[any](t, c, "a", 120, 121)
	}
}

func TestKeysThatAreNotEqualToThemselves(t *testing.T) { // P17.1 to P17.3: each push of one begins another chain, which nobody finds by its key
	c, nan := of[float64](t, 3), math.NaN()
	for round := range 5000 {
		push(t, c, 1, 2)
		push(t, c, nan, 0, 1)
		if c.First(nan) != -1 || c.Len(nan) != 0 || len(c.All(nan)) != 0 || len(c.Take(nan)) != 0 || c.Total() != 3 {
			t.Fatalf("round %d: there is a chain of NaN", round)
		}
		if c.Push(nan, 0) || c.Push(1, 0) || c.Next(0) != -1 || c.Next(1) != -1 {
			t.Fatalf("round %d: thing 0 is in none", round)
		}
		c = c.Copy()
		for i := range 2 {
			if k, is := c.Key(i); k == k || !is {
				t.Fatalf("round %d: Key(%d): %v, %v", round, i, k, is)
			}
			if !c.Remove(i) || c.Remove(i) {
				t.Fatalf("round %d: Remove(%d)", round, i)
			}
			free(t, c, i)
		}
		holds(t, c, 1, 2)
		if !c.Remove(2) || c.Total() != 0 {
			t.Fatalf("round %d: Total: %d", round, c.Total())
		}
	}
}
