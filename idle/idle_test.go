package idle

import (
	"testing"

	"platformfw/api"
)

func st(latency, residency, power uint64) api.IdleState {
	return api.IdleState{Latency: latency, Residency: residency, Power: power}
}

func sample() []api.IdleState { return []api.IdleState{st(0, 0, 10), st(5, 20, 4), st(50, 200, 1)} }

// P37.1: valid lists.
func TestCheck(t *testing.T) {
	long := make([]api.IdleState, 11)
	for i := range long {
		long[i] = st(uint64(i), uint64(i), uint64(20-i))
	}
	for i, l := range [][]api.IdleState{sample(), long[:10], {st(0, 0, 0)}, {st(0, 0, 1<<20), st(1<<30, 1<<30, 0)}} {
		if Check(l) != api.OK {
			t.Error(i)
		}
	}
	for i, l := range [][]api.IdleState{nil, long, {st(1, 0, 1)}, {st(0, 1, 1)}, {st(0, 0, 1<<20+1)}, {st(0, 0, 9), st(1<<30+1, 1, 1)}, {st(0, 0, 9), st(1, 1<<30+1, 1)}, {st(0, 0, 9), st(0, 1, 1)}, {st(0, 0, 9), st(1, 0, 1)}, {st(0, 0, 9), st(1, 1, 9)}} {
		_, e1 := Select(l, 0, 0)
		_, e2 := Energy(l, 0, 0)
		if Check(l) != api.ErrInvalid || e1 != api.ErrInvalid || e2 != api.ErrInvalid {
			t.Error(i)
		}
	}
}

// P37.2 and P37.3: the choice of a state and its energy.
func TestSelectEnergy(t *testing.T) {
	for _, c := range []struct {
		expected, limit uint64
		want            int
	}{{100, 1000, 1}, {500, 40, 1}, {500, 50, 2}, {199, 50, 1}, {200, 50, 2}, {19, 99, 0}, {0, 0, 0}, {500, 4, 0}} {
		if got, e := Select(sample(), c.expected, c.limit); got != c.want || e != api.OK {
			t.Error(c, got, e)
		}
	}
	for i, c := range []struct {
		state    int
		duration uint64
		want     uint64
		e        api.Errno
	}{{0, 7, 70, 0}, {1, 0, 120, 0}, {2, 3, 723, 0}, {2, 1 << 40, 1<<40 + 720, 0}, {2, 1<<40 + 1, 0, api.ErrInvalid}, {3, 0, 0, api.ErrInvalid}, {-1, 0, 0, api.ErrInvalid}} {
		if got, e := Energy(sample(), c.state, c.duration); got != c.want || e != c.e {
			t.Error(i, got, e)
		}
	}
	for d := range uint64(400) {
		best, _ := Select(sample(), d, 50)
		least, _ := Energy(sample(), best, d)
		for s := range 3 {
			if e, _ := Energy(sample(), s, d); e < least {
				t.Error(d, s)
			}
		}
	}
}

// P37.4: latency limits.
func TestLimits(t *testing.T) {
	l := NewLimits()
	if l.Limit() != api.MaxTime || l.Remove(3) != api.ErrNotFound || l.Remove(-1) != api.ErrInvalid || l.Remove(32) != api.ErrInvalid || l.Set(32, 1) != api.ErrInvalid || l.Set(-1, 1) != api.ErrInvalid {
		t.Error("errors")
	}
	l.Set(31, 1<<63)
	if l.Limit() != 1<<63 {
		t.Error("a large request")
	}
	l.Set(0, 50)
	l.Set(3, 40)
	if l.Limit() != 40 {
		t.Error(l.Limit())
	}
	l.Set(3, 60)
	if l.Limit() != 50 || l.Remove(0) != api.OK || l.Limit() != 60 || l.Remove(0) != api.ErrNotFound {
		t.Error(l.Limit())
	}
}

// P37.5: prediction.
func TestPredictor(t *testing.T) {
	p := NewPredictor()
	for range 7 {
		p.Record(10)
	}
	if p.Record(api.MaxTime+1) != api.ErrInvalid || p.Expected(99) != 99 {
		t.Error("too few records")
	}
	p.Record(api.MaxTime)
	if p.Expected(99) != 10 || p.Expected(5) != 5 {
		t.Error(p.Expected(99))
	}
	p.Record(api.MaxTime)
	if p.Expected(1<<63) != (6*10+api.MaxTime)/7 {
		t.Error("only one of the greatest is removed")
	}
	for i := range uint64(8) {
		p.Record(i)
	}
	if p.Expected(99) != 3 {
		t.Error(p.Expected(99))
	}
	p.Record(20)
	if p.Expected(99) != 4 {
		t.Error("floor", p.Expected(99))
	}
	for range 8 {
		p.Record(api.MaxTime)
	}
	if p.Expected(1<<64-1) != api.MaxTime {
		t.Error("large")
	}
}
