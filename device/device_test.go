package device

import (
	"slices"
	"testing"

	"platformfw/api"
)

func dev(parent int, rails ...[]int) api.PowerDevice {
	d := api.PowerDevice{Parent: parent, Deepest: [6]int{0, 1, 2, 3, 4, 4}, WakeDevice: 3, WakeSystem: 4}
	copy(d.Rails[:], rails)
	return d
}

// P27.1: valid devices.
func TestCheck(t *testing.T) {
	if Check(nil, 0) != 0 || Check([]api.PowerDevice{dev(-1, []int{0, 63}), dev(0)}, 64) != 0 || Check(slices.Repeat([]api.PowerDevice{dev(-1)}, 64), 0) != 0 {
		t.Error("valid devices refused")
	}
	for i, c := range []struct {
		d     []api.PowerDevice
		rails int
	}{{slices.Repeat([]api.PowerDevice{dev(-1)}, 65), 0}, {nil, -1}, {nil, 65}, {[]api.PowerDevice{dev(0)}, 0}, {[]api.PowerDevice{dev(-2)}, 0}, {[]api.PowerDevice{dev(-1, nil, []int{1, 1})}, 3}, {[]api.PowerDevice{dev(-1, []int{2, 1})}, 3}, {[]api.PowerDevice{dev(-1, []int{-1})}, 3}, {[]api.PowerDevice{dev(-1, nil, nil, nil, []int{3})}, 3}} {
		if Check(c.d, c.rails) != api.ErrInvalid {
			t.Error(i)
		}
	}
	for i, change := range []func(d *api.PowerDevice){func(d *api.PowerDevice) { d.Deepest[0] = 1 }, func(d *api.PowerDevice) { d.Deepest[2] = 0 }, func(d *api.PowerDevice) { d.Deepest[5] = 5 }, func(d *api.PowerDevice) { d.WakeSystem = 5 }, func(d *api.PowerDevice) { d.WakeSystem = -1 }, func(d *api.PowerDevice) { d.WakeDevice = 4 }, func(d *api.PowerDevice) { d.WakeDevice = -1 }} {
		d := dev(-1)
		change(&d)
		if Check([]api.PowerDevice{d}, 0) != api.ErrInvalid {
			t.Error(i)
		}
	}
}

// P27.2: target states.
func TestTarget(t *testing.T) {
	d := dev(-1)
	d.WakeSystem, d.WakeDevice = 3, 2
	for _, c := range []struct {
		system int
		wake   bool
		want   int
		e      api.Errno
	}{{0, false, 0, 0}, {4, false, 4, 0}, {5, false, 4, 0}, {3, true, 2, 0}, {1, true, 1, 0}, {4, true, 0, api.ErrDenied}, {-1, true, 0, api.ErrInvalid}, {6, false, 0, api.ErrInvalid}} {
		if got, e := Target(d, c.system, c.wake); got != c.want || e != c.e {
			t.Error(c, got, e)
		}
	}
}

// P27.3: rails for a change.
func TestChange(t *testing.T) {
	d := dev(-1, []int{0, 2, 5, 7}, []int{2, 3, 4}, []int{1, 1}, []int{2})
	for _, c := range []struct {
		from, to         int
		acquire, release []int
		e                api.Errno
	}{{4, 0, []int{0, 2, 5, 7}, nil, 0}, {0, 3, nil, []int{7, 5, 0}, 0}, {0, 1, []int{3, 4}, []int{7, 5, 0}, 0}, {1, 1, nil, nil, 0}, {4, 4, nil, nil, 0}, {0, 2, nil, nil, api.ErrInvalid}, {2, 4, nil, nil, api.ErrInvalid}, {5, 0, nil, nil, api.ErrInvalid}, {0, -1, nil, nil, api.ErrInvalid}} {
		a, r, e := Change(d, c.from, c.to)
		if !slices.Equal(a, c.acquire) || !slices.Equal(r, c.release) || e != c.e {
			t.Error(c, a, r, e)
		}
	}
}

func ramps(n int) []api.Rail {
	l := make([]api.Rail, n)
	for i := range l {
		l[i] = api.Rail{Supply: i - 1, RampUp: 5, RampDown: 2}
	}
	return l
}

// P27.4 to P27.6: trees.
func TestTree(t *testing.T) {
	if tree, e := New([]api.PowerDevice{dev(0)}, nil); tree != nil || e != api.ErrInvalid {
		t.Error(e)
	}
	if tree, e := New(nil, []api.Rail{{Supply: 0}}); tree != nil || e != api.ErrCycle {
		t.Error(e)
	}
	if _, e := New(nil, make([]api.Rail, 65)); e != api.ErrInvalid {
		t.Error(e)
	}
	devices := []api.PowerDevice{dev(-1, []int{0}), dev(0, []int{1}, []int{0})}
	tree, e := New(devices, ramps(2))
	if e != api.OK || tree.State(0) != api.D3Cold || tree.State(2) != -1 || tree.State(-1) != -1 {
		t.Error(e)
	}
	devices[1].Rails[0][0] = 0
	set := func(device, state int, now uint64, want api.Errno, ops ...api.RailOp) {
		t.Helper()
		if got, e := tree.Set(device, state, now); e != want || !slices.Equal(got, ops) {
			t.Error(got, e)
		}
	}
	on := func(rail int, start, done uint64) api.RailOp {
		return api.RailOp{Rail: rail, On: true, Start: start, Done: done}
	}
	set(1, api.D0, 0, api.ErrState)
	set(1, api.D3Hot, 0, api.ErrState)
	set(1, api.D3Cold, 0, api.OK)
	set(0, api.D0, 10, api.OK, on(0, 10, 15))
	set(1, api.D0, 10, api.OK, on(1, 15, 20))
	set(0, api.D1, 10, api.ErrState)
	set(0, api.D0, 10, api.OK)
	for _, c := range [][3]int{{-1, 0, 10}, {2, 0, 10}, {0, 5, 10}, {0, -1, 10}, {0, 0, 9}, {0, 0, api.MaxTime + 1}} {
		set(c[0], c[1], uint64(c[2]), api.ErrInvalid)
	}
	if tree.Accessible(0, 14) || !tree.Accessible(0, 15) || tree.Accessible(1, 19) || !tree.Accessible(1, 20) || tree.Accessible(2, 99) || tree.Accessible(-1, 99) {
		t.Error("accessible")
	}
	if tree.Count(0) != 2 || tree.Count(1) != 1 || tree.Count(2) != 0 {
		t.Error("count")
	}
	set(1, api.D1, 30, api.OK, api.RailOp{Rail: 1, Start: 30, Done: 32})
	if tree.Accessible(1, 99) || tree.Count(0) != 2 {
		t.Error("the rail is needed in D1")
	}
	set(1, api.D3Cold, 31, api.OK)
	set(0, api.D3Hot, 31, api.OK, api.RailOp{Rail: 0, Start: 32, Done: 34})
	if tree.State(0) != api.D3Hot || tree.Count(0) != 0 {
		t.Error("state")
	}
}
