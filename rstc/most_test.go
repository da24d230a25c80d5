package rstc

import (
	"testing"

	"minuterie/api"
)

// P9.1, P9.3: the count is at most 2^32 - 1, and a reset there is latched all the same. So many resets would take too long: the count is set.
func TestGreatestCount(t *testing.T) {
	const greatest = 1<<32 - 1
	r := New()
	r.registers[count] = greatest - 2
	for i, want := range []uint32{greatest - 1, greatest, greatest, greatest} {
		r.Store(8, Key)
		r.Store(0, greatest)
		if !r.Latch(Wrong) || r.Asked() || r.Cause() != Wrong || r.Last() != Wrong || r.Count() != want {
			t.Error(i, r.Asked(), r.Cause(), r.Last(), r.Count())
		}
	}
	if v, e := r.Load(4); v != greatest || e != api.OK {
		t.Error(v, e)
	}
	if c := r.Copy(); !c.Latch(Wrong) || !c.Latch(Soft) || c.Count() != greatest || c.Cause() != Wrong|Soft {
		t.Error(c.Cause(), c.Count())
	}
}
