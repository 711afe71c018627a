package rails

import (
	"slices"
	"testing"

	"platformfw/api"
)

func op(rail int, on bool, start, done uint64) api.RailOp {
	return api.RailOp{Rail: rail, On: on, Start: start, Done: done}
}

func two(t *testing.T) *Rails {
	t.Helper()
	r, e := New([]api.Rail{{Supply: -1, RampUp: 5, RampDown: 2}, {Supply: 0, RampUp: 3, RampDown: 1}})
	if e != api.OK {
		t.Fatal(e)
	}
	return r
}

func acquire(t *testing.T, r *Rails, rail int, now uint64, want ...api.RailOp) {
	t.Helper()
	if got, e := r.Acquire(rail, now); !slices.Equal(got, want) || e != api.OK {
		t.Error(got, e)
	}
}

func release(t *testing.T, r *Rails, rail int, now uint64, want ...api.RailOp) {
	t.Helper()
	if got, e := r.Release(rail, now); !slices.Equal(got, want) || e != api.OK {
		t.Error(got, e)
	}
}

// P25.1: valid and invalid rails.
func TestNew(t *testing.T) {
	for i, c := range []struct {
		rails []api.Rail
		e     api.Errno
	}{
		{nil, 0}, {make([]api.Rail, 65), api.ErrInvalid}, {[]api.Rail{{Supply: -2}}, api.ErrInvalid}, {[]api.Rail{{Supply: 1}}, api.ErrInvalid}, {[]api.Rail{{Supply: -1, RampUp: api.MaxRamp + 1}}, api.ErrInvalid}, {[]api.Rail{{Supply: -1, RampDown: api.MaxRamp + 1}}, api.ErrInvalid},
		{[]api.Rail{{Supply: -1, RampUp: api.MaxRamp, RampDown: api.MaxRamp}}, 0}, {[]api.Rail{{Supply: 0}}, api.ErrCycle}, {[]api.Rail{{Supply: 1}, {Supply: 2}, {Supply: 0}}, api.ErrCycle}, {[]api.Rail{{Supply: 0}, {Supply: 9}}, api.ErrInvalid}, {slices.Repeat([]api.Rail{{Supply: -1}}, 64), 0},
	} {
		if r, e := New(c.rails); e != c.e || (r == nil) != (e != api.OK) {
			t.Error(i, e)
		}
	}
}

// P25.2 and P25.3: the operations of switching on and off.
func TestOperations(t *testing.T) {
	r := two(t)
	acquire(t, r, 1, 10, op(0, true, 10, 15), op(1, true, 15, 18))
	acquire(t, r, 1, 11)
	acquire(t, r, 0, 12)
	release(t, r, 1, 12)
	release(t, r, 1, 13, op(1, false, 18, 19))
	acquire(t, r, 1, 13, op(1, true, 19, 22))
	release(t, r, 0, 14)
	release(t, r, 1, 30, op(1, false, 30, 31), op(0, false, 31, 33))
	acquire(t, r, 0, 31, op(0, true, 33, 38))
	acquire(t, r, 1, 50, op(1, true, 50, 53))
	release(t, r, 0, 51)
	if _, e := r.Release(0, 52); e != api.ErrState {
		t.Error("in use only as a supply", e)
	}
	release(t, r, 1, 51, op(1, false, 53, 54), op(0, false, 54, 56))
	if _, e := r.Release(1, 52); e != api.ErrState {
		t.Error("not in use", e)
	}
}

// P25.2 and P25.3: wrong arguments, and the clock.
func TestErrors(t *testing.T) {
	r := two(t)
	acquire(t, r, 0, 10, op(0, true, 10, 15))
	for _, c := range []struct {
		rail int
		now  uint64
	}{{-1, 20}, {2, 20}, {0, 9}, {0, api.MaxTime + 1}} {
		a, e1 := r.Acquire(c.rail, c.now)
		b, e2 := r.Release(c.rail, c.now)
		if a != nil || b != nil || e1 != api.ErrInvalid || e2 != api.ErrInvalid {
			t.Error(c, e1, e2)
		}
	}
	r.Release(1, 500)
	acquire(t, r, 0, 10) // a failed call does not set the clock
	acquire(t, r, 1, api.MaxTime, op(1, true, api.MaxTime, api.MaxTime+3))
}

// P25.4: what is known of a rail.
func TestState(t *testing.T) {
	r := two(t)
	acquire(t, r, 1, 10, op(0, true, 10, 15), op(1, true, 15, 18))
	if r.Count(0) != 1 || r.Count(1) != 1 || r.Count(2) != 0 || r.Count(-1) != 0 {
		t.Error("count")
	}
	if at, ok := r.ReadyAt(1); at != 18 || !ok {
		t.Error(at)
	}
	if at, ok := r.ReadyAt(7); at != 0 || ok {
		t.Error(at)
	}
	if r.Powered(1, 17) || !r.Powered(1, 18) || r.Powered(-1, 99) || !r.Powered(0, 1<<63) {
		t.Error("powered")
	}
	c := r.Copy()
	release(t, r, 1, 20, op(1, false, 20, 21), op(0, false, 21, 23))
	if c.Count(1) != 1 || r.Count(1) != 0 || r.Powered(1, 99) {
		t.Error("copy")
	}
	if at, ok := r.ReadyAt(1); at != 0 || ok {
		t.Error(at)
	}
	acquire(t, c, 0, 10)
	c.Acquire(1, 15)
	if _, e := c.Release(0, 10); e != api.ErrInvalid {
		t.Error("clock of a copy", e)
	}
}
