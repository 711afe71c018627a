package runtimepm

import (
	"slices"
	"testing"

	"platformfw/api"
)

func dev(parent int, delay uint64, suppliers ...int) api.IdleDevice {
	return api.IdleDevice{Parent: parent, Delay: delay, Suppliers: suppliers}
}

func manager(t *testing.T, l ...api.IdleDevice) *Manager {
	t.Helper()
	m, e := New(l)
	if e != api.OK {
		t.Fatal(e)
	}
	return m
}

func on(i int, at uint64) api.PowerOp { return api.PowerOp{Device: i, Resume: true, At: at} }

func off(i int, at uint64) api.PowerOp { return api.PowerOp{Device: i, At: at} }

func expect(t *testing.T, got []api.PowerOp, e api.Errno, want ...api.PowerOp) {
	t.Helper()
	if !slices.Equal(got, want) || e != api.OK {
		t.Error(got, e, want)
	}
}

// P28.1: valid devices.
func TestNew(t *testing.T) {
	many := make([]api.IdleDevice, 64)
	for i := range many {
		many[i].Parent = -1
		for k := range i {
			if i <= 45 {
				many[i].Suppliers = append(many[i].Suppliers, k)
			}
		}
	}
	for i, c := range []struct {
		l []api.IdleDevice
		e api.Errno
	}{
		{nil, 0}, {slices.Repeat([]api.IdleDevice{dev(-1, 0)}, 64), 0}, {slices.Repeat([]api.IdleDevice{dev(-1, 0)}, 65), api.ErrInvalid}, {[]api.IdleDevice{dev(1, 0)}, api.ErrInvalid}, {[]api.IdleDevice{dev(-2, 0)}, api.ErrInvalid}, {[]api.IdleDevice{dev(-1, 0, -1)}, api.ErrInvalid}, {[]api.IdleDevice{dev(-1, 0, 1)}, api.ErrInvalid}, {[]api.IdleDevice{dev(-1, api.MaxRamp+1)}, api.ErrInvalid},
		{[]api.IdleDevice{dev(-1, api.MaxRamp), dev(0, 0, 0)}, api.ErrDuplicate}, {[]api.IdleDevice{dev(-1, 0), dev(-1, 0, 0, 0)}, api.ErrDuplicate}, {[]api.IdleDevice{dev(0, 0)}, api.ErrCycle}, {[]api.IdleDevice{dev(1, 0), dev(-1, 0, 0)}, api.ErrCycle}, {[]api.IdleDevice{dev(1, 0), dev(-1, api.MaxRamp+1, 0)}, api.ErrInvalid}, {many, api.ErrInvalid}, {many[:45], 0},
	} {
		if m, e := New(c.l); e != c.e || (m == nil) != (e != 0) {
			t.Error(i, e)
		}
	}
}

// P28.2 to P28.4: uses, resumes and autosuspend.
func TestOperations(t *testing.T) {
	m := manager(t, dev(-1, 0), dev(0, 5))
	ops, e := m.Get(1, 10)
	expect(t, ops, e, on(0, 10), on(1, 10))
	ops, e = m.Put(1, 20)
	expect(t, ops, e)
	if at, ok := m.NextExpiry(); at != 25 || !ok {
		t.Error(at)
	}
	ops, e = m.Advance(24)
	expect(t, ops, e)
	ops, e = m.Advance(30)
	expect(t, ops, e, off(1, 25), off(0, 25))
	if _, ok := m.NextExpiry(); ok || m.Active(0) {
		t.Error("nothing is idle")
	}
	ops, e = m.Get(0, 30)
	expect(t, ops, e, on(0, 30))
	ops, e = m.Get(1, 31)
	expect(t, ops, e, on(1, 31))
	ops, e = m.Put(0, 40)
	expect(t, ops, e)
	m.Put(1, 40)
	ops, e = m.Get(1, 45)
	expect(t, ops, e, off(1, 45), off(0, 45), on(0, 45), on(1, 45))
	m.Get(1, 45)
	m.Put(1, 46)
	ops, e = m.Advance(60)
	expect(t, ops, e)
	m.Put(1, 60)
	m.Get(1, 64)
	ops, e = m.Put(1, 64)
	expect(t, ops, e)
	ops, e = m.Advance(68)
	expect(t, ops, e)
	ops, e = m.Advance(69)
	expect(t, ops, e, off(1, 69), off(0, 69))
}

// P28.2 and P28.3: several suppliers, the order of the graph, and simultaneous expiry.
func TestGraph(t *testing.T) {
	m := manager(t, dev(3, 4, 2), dev(-1, 2, 3), dev(-1, 3), dev(-1, 1))
	ops, e := m.Get(0, 1)
	expect(t, ops, e, on(2, 1), on(3, 1), on(0, 1))
	ops, e = m.Get(1, 1)
	expect(t, ops, e, on(1, 1))
	m.Put(0, 2)
	m.Put(1, 4)
	ops, e = m.Advance(100)
	expect(t, ops, e, off(0, 6), off(1, 6), off(3, 7), off(2, 9))
	z := manager(t, dev(-1, 0))
	z.Get(0, 5)
	ops, e = z.Put(0, 6)
	expect(t, ops, e, off(0, 6))
}

// P28.5 and P28.6: wrong arguments and states.
func TestErrors(t *testing.T) {
	m := manager(t, dev(-1, 5))
	m.Get(0, 10)
	for _, c := range []struct {
		device int
		now    uint64
	}{{-1, 20}, {1, 20}, {0, 9}, {0, api.MaxTime + 1}} {
		a, e1 := m.Get(c.device, c.now)
		b, e2 := m.Put(c.device, c.now)
		if a != nil || b != nil || e1 != api.ErrInvalid || e2 != api.ErrInvalid {
			t.Error(c, e1, e2)
		}
	}
	for _, now := range []uint64{9, api.MaxTime + 1} {
		if _, e := m.Advance(now); e != api.ErrInvalid {
			t.Error(e)
		}
	}
	if !m.Active(0) || m.Usage(0) != 1 || m.Active(1) || m.Active(-1) || m.Usage(1) != 0 || m.Usage(-1) != 0 {
		t.Error("state")
	}
	m.Put(0, 10)
	if ops, e := m.Put(0, 50); ops != nil || e != api.ErrState || !m.Active(0) {
		t.Error("a failed Put has an effect", ops, e)
	}
	if _, e := m.Put(0, 9); e != api.ErrInvalid {
		t.Error(e)
	}
	ops, e := m.Get(0, 11)
	expect(t, ops, e)
	if _, e := m.Get(0, api.MaxTime); e != api.OK {
		t.Error(e)
	}
}
