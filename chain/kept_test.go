package chain

import (
	"math"
	"testing"
)

func TestEmptiedHeadsAreDeleted(t *testing.T) { // what is kept is no more than the promises need
	c, _ := New[float64](8)
	for round := range 100 {
		k := float64(round)
		c.Push(k, 0)
		c.Push(k, 1)
		c.Push(-1, 7)
		c.Push(math.NaN(), 2)
		if len(c.heads) != 2 {
			t.Fatalf("round %d: %d heads, not 2", round, len(c.heads))
		}
		c.Remove(0)
		if len(c.heads) != 2 {
			t.Fatalf("round %d: %d heads, not 2", round, len(c.heads))
		}
		c.Remove(1)
		c.Remove(2)
		c.Take(-1)
		if len(c.heads) != 0 || c.links[0].in != nil {
			t.Fatalf("round %d: %d heads are left", round, len(c.heads))
		}
		c.First(k)
		c.Take(k)
		if c = c.Copy(); len(c.heads) != 0 {
			t.Fatalf("round %d: a copy has %d heads", round, len(c.heads))
		}
	}
}
