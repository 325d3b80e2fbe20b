package dispatch

import (
	"math"
	"testing"

	"waybill/api"
)

// P29.1: at 2^62 the ticks end. It would take too long to come there from 0 on.
func TestLastTick(t *testing.T) {
	for _, c := range []struct{ now, n, want uint64 }{
		{1<<62 - 2, 1, 1<<62 - 1},
		{1<<62 - 1, 1, 1 << 62},
		{1<<62 - 1, 2, 1 << 62},
		{1 << 62, 0, 1 << 62},
		{1 << 62, 1, 1 << 62},
		{1 << 62, math.MaxUint64, 1 << 62},
		{1<<62 - 1<<32, math.MaxUint64, 1 << 62},
		{1<<62 - 1<<32 - 1, math.MaxUint64, 1<<62 - 1},
		{1<<62 - 1<<32 + 1, 1 << 32, 1 << 62},
	} {
		d := New()
		d.now = c.now
		d.Do(api.Event{Kind: api.EvTick, N: c.n})
		if d.Now() != c.want {
			t.Errorf("%d and %d: %d, not %d", c.now, c.n, d.Now(), c.want)
		}
	}
}
