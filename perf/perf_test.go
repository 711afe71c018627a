package perf

import (
	"slices"
	"testing"

	"platformfw/api"
)

func pt(f, v, p uint64) api.OperatingPoint {
	return api.OperatingPoint{Frequency: f, Voltage: v, Power: p}
}

func table() []api.OperatingPoint {
	return []api.OperatingPoint{pt(100, 900, 10), pt(200, 1000, 25), pt(300, 1000, 30), pt(400, 1100, 60)}
}

// P36.1: valid tables.
func TestCheck(t *testing.T) {
	const big = 1 << 40
	long := make([]api.OperatingPoint, 17)
	for i := range long {
		long[i] = pt(uint64(i+1), 0, 0)
	}
	for i, l := range [][]api.OperatingPoint{table(), long[:16], {pt(big, big, big)}, {pt(1, 0, 0)}} {
		if Check(l) != api.OK {
			t.Error(i)
		}
	}
	for i, l := range [][]api.OperatingPoint{nil, long, {pt(0, 1, 1)}, {pt(big+1, 1, 1)}, {pt(1, big+1, 1)}, {pt(1, 1, big+1)}, {pt(1, 1, 1), pt(1, 2, 2)}, {pt(1, 2, 1), pt(2, 1, 1)}, {pt(1, 1, 2), pt(2, 1, 1)}} {
		_, e1 := Find(l, 1)
		_, e2 := Transition(l, 0, 0)
		g, e3 := New(l, api.GovernorParams{})
		if Check(l) != api.ErrInvalid || e1 != api.ErrInvalid || e2 != api.ErrInvalid || e3 != api.ErrInvalid || g != nil || Safe(l, 0, nil) {
			t.Error(i)
		}
	}
}

// P36.2 to P36.4: points, transitions and their safety.
func TestFindTransition(t *testing.T) {
	for f, want := range map[uint64]int{0: 0, 100: 0, 101: 1, 400: 3} {
		if i, e := Find(table(), f); i != want || e != api.OK {
			t.Error(f, i, e)
		}
	}
	if i, e := Find(table(), 401); i != 0 || e != api.ErrNotFound {
		t.Error(i, e)
	}
	v := func(x uint64) api.PerfOp { return api.PerfOp{Voltage: true, Value: x} }
	f := func(x uint64) api.PerfOp { return api.PerfOp{Value: x} }
	for i, c := range []struct {
		from, to int
		want     []api.PerfOp
		e        api.Errno
	}{{0, 1, []api.PerfOp{v(1000), f(200)}, 0}, {1, 0, []api.PerfOp{f(100), v(900)}, 0}, {1, 2, []api.PerfOp{f(300)}, 0}, {2, 1, []api.PerfOp{f(200)}, 0}, {3, 3, nil, 0}, {-1, 0, nil, api.ErrInvalid}, {0, 4, nil, api.ErrInvalid}} {
		if got, e := Transition(table(), c.from, c.to); !slices.Equal(got, c.want) || e != c.e {
			t.Error(i, got, e)
		}
	}
	for from := range 4 {
		for to := range 4 {
			ops, _ := Transition(table(), from, to)
			if !Safe(table(), from, ops) {
				t.Error(from, to)
			}
		}
	}
	for i, c := range []struct {
		from int
		ops  []api.PerfOp
		want bool
	}{{0, nil, true}, {4, nil, false}, {-1, nil, false}, {0, []api.PerfOp{f(200), v(1000)}, false}, {1, []api.PerfOp{v(900), f(100)}, false}, {0, []api.PerfOp{v(5000), f(150)}, false}, {0, []api.PerfOp{v(5000), f(400), f(100), v(900)}, true}, {0, []api.PerfOp{v(899)}, false}} {
		if Safe(table(), c.from, c.ops) != c.want {
			t.Error(i)
		}
	}
}

// P36.5 to P36.7: the governor.
func TestGovernor(t *testing.T) {
	for i, p := range []api.GovernorParams{{Up: 0, Down: 0, Samples: 1}, {Up: 101, Down: 1, Samples: 1}, {Up: 50, Down: 50, Samples: 1}, {Up: 50, Down: -1, Samples: 1}, {Up: 50, Down: 1, Samples: 0}, {Up: 50, Down: 1, Samples: 1001}} {
		if g, e := New(table(), p); g != nil || e != api.ErrInvalid {
			t.Error(i, e)
		}
	}
	g, e := New(table(), api.GovernorParams{Up: 80, Down: 30, Samples: 2})
	if e != api.OK || g.Current() != 0 {
		t.Fatal(e)
	}
	sample := func(load, want int) {
		t.Helper()
		if i, e := g.Sample(load); i != want || e != api.OK || g.Current() != want {
			t.Error(load, i, e)
		}
	}
	limit := func(low, high int, want api.Errno) {
		t.Helper()
		if e := g.Limit(low, high); e != want {
			t.Error(low, high, e)
		}
	}
	sample(80, 0)
	sample(81, 3)
	sample(29, 3)
	sample(30, 3)
	sample(29, 3)
	sample(29, 1)
	sample(0, 1)
	sample(81, 3)
	sample(0, 3)
	sample(0, 0)
	limit(1, 2, 0)
	sample(0, 1)
	limit(1, 2, 0)
	sample(0, 1)
	sample(100, 2)
	sample(0, 2)
	sample(0, 1)
	limit(2, 3, 0)
	sample(50, 2)
	limit(0, 1, 0)
	sample(50, 1)
	for _, c := range [][2]int{{-1, 2}, {2, 1}, {0, 4}} {
		limit(c[0], c[1], api.ErrInvalid)
	}
	for _, load := range []int{-1, 101} {
		if i, e := g.Sample(load); i != 0 || e != api.ErrInvalid || g.Current() != 1 {
			t.Error(load, e)
		}
	}
	g, _ = New(table(), api.GovernorParams{Up: 80, Down: 79, Samples: 1})
	sample(100, 3)
	sample(60, 2) // 60 * 400 = 80 * 300
	sample(78, 2)
}
