package control

import (
	"slices"
	"strings"
	"testing"

	"platformfw/api"
	"platformfw/iospace"
)

const driverText = `driver d
state off
on start -> on: write 0 7
on init -> on: write 4 1; write 8 2
on check if 12 & 1 = 1 -> on: write 16 5
on check if 12 & 2 = 2 -> off: read 20
on suspend -> off: write 24 1
on resume -> off: write 28 1
state on
on stop -> off: write 32 1
`

func boardDevice(function, parent int, delay uint64, rails ...int) api.BoardDevice {
	d := api.BoardDevice{Function: function, Power: api.PowerDevice{Parent: parent, Deepest: [6]int{0, 1, 2, 3, 4, 4}, WakeSystem: 3, WakeDevice: 2}, Idle: api.IdleDevice{Parent: parent, Delay: delay}, Driver: driverText}
	d.Power.Rails[0] = rails
	return d
}

var oneRail = []api.Rail{{Supply: -1, RampUp: 5, RampDown: 2}}

// stage is a device power with its bus.
type stage struct {
	t   *testing.T
	bus *iospace.Bus
	p   *Power
}

func newStage(t *testing.T, devices ...api.BoardDevice) *stage {
	t.Helper()
	s := &stage{t: t, bus: iospace.New()}
	var bases []uint64
	for i := range devices {
		bases = append(bases, uint64(0x1000*(i+1)))
	}
	var e api.Errno
	if s.p, e = NewPower(devices, oneRail, bases, s.bus); e != api.OK {
		t.Fatal(e)
	}
	return s
}

func (s *stage) expect(what string, got, want any) {
	s.t.Helper()
	if got != want {
		s.t.Errorf("%s: got %v, want %v", what, got, want)
	}
}

// trace compares the accesses since the last call, as pairs of the address and the value, and tests that they were live.
func (s *stage) trace(want ...uint64) {
	s.t.Helper()
	var got []uint64
	for _, x := range s.bus.TakeTrace() {
		got = append(got, x.Access.Addr, x.Access.Value)
		if !x.Live || x.Access.Width != 4 {
			s.t.Error(x)
		}
	}
	if !slices.Equal(got, want) {
		s.t.Errorf("%x, want %x", got, want)
	}
}

// P44.3: valid devices.
func TestNewPower(t *testing.T) {
	for i, c := range []struct {
		change func(d *api.BoardDevice)
		ok     bool
	}{
		{func(d *api.BoardDevice) {}, true}, {func(d *api.BoardDevice) { d.Function = 254 }, true}, {func(d *api.BoardDevice) { d.Function = 255 }, false}, {func(d *api.BoardDevice) { d.Function = -1 }, false}, {func(d *api.BoardDevice) { d.Function = 0 }, false}, {func(d *api.BoardDevice) { d.Idle.Parent = 0 }, false}, {func(d *api.BoardDevice) { d.Power.Rails[1] = []int{0} }, false}, {func(d *api.BoardDevice) { d.Power.Rails[0] = []int{1} }, false},
		{func(d *api.BoardDevice) { d.Driver = "x" }, false}, {func(d *api.BoardDevice) { d.Driver = "driver d\nstate a\non b -> a: read 252" }, true}, {func(d *api.BoardDevice) { d.Driver = "driver d\nstate a\non b -> a: read 256" }, false}, {func(d *api.BoardDevice) { d.Driver = "driver d\nstate a\non b -> a: read 2" }, false}, {func(d *api.BoardDevice) { d.Driver = "driver d\nstate a\non b if 5 & 1 = 1 -> a" }, false}, {func(d *api.BoardDevice) { d.Power.Deepest[0] = 1 }, false}, {func(d *api.BoardDevice) { d.Idle.Suppliers = []int{1} }, false},
	} {
		a, b := boardDevice(0, -1, 0), boardDevice(1, -1, 0)
		c.change(&b)
		p, e := NewPower([]api.BoardDevice{a, b}, oneRail, []uint64{0x1000, 0x2000}, iospace.New())
		if (e == api.OK) != c.ok || (p != nil) != c.ok || !c.ok && e != api.ErrInvalid {
			t.Error(i, e)
		}
	}
	var many []api.BoardDevice
	var bases []uint64
	for i := range 17 {
		many = append(many, boardDevice(i, -1, 0))
		bases = append(bases, uint64(i*256))
	}
	for i, c := range []struct {
		d     []api.BoardDevice
		rails []api.Rail
		bases []uint64
		e     api.Errno
	}{{many[:16], oneRail, bases[:16], 0}, {many, oneRail, bases, api.ErrInvalid}, {many[:2], oneRail, bases[:3], api.ErrInvalid}, {many[:1], oneRail, []uint64{128}, api.ErrInvalid}, {many[:1], []api.Rail{{Supply: 0}}, bases[:1], api.ErrInvalid}, {many[:2], oneRail, []uint64{256, 256}, api.ErrBusy}} {
		b := iospace.New()
		p, e := NewPower(c.d, c.rails, c.bases, b)
		if e != c.e || (p == nil) != (e != 0) || b.Owner(0, 256) >= 0 != (i == 0 || i == 5) || b.Enabled(0) {
			t.Error(i, e)
		}
	}
	late := boardDevice(3, -1, 0)
	late.Idle.Suppliers = []int{2}
	s := newStage(t, boardDevice(5, -1, 0), late, boardDevice(4, -1, 0, 0))
	if !slices.Equal(s.p.Order(), []int{0, 2, 1}) {
		t.Error(s.p.Order())
	}
}

// P44.4 and P44.7: uses, requests, their delivery, and the view of devices.
func TestUseRequestDeliver(t *testing.T) {
	s := newStage(t, boardDevice(0, -1, 10, 0), boardDevice(1, 0, 4))
	s.expect("not used", s.p.Request(1, "init"), api.ErrState)
	for _, i := range []int{-1, 2} {
		if s.p.Use(i, 0) != api.ErrNotFound || s.p.Release(i, 0) != api.ErrNotFound || s.p.Request(i, "") != api.ErrNotFound || s.p.EnableWake(i, true) != api.ErrNotFound || s.p.View(i, 0) != (api.DeviceView{}) {
			t.Error(i)
		}
	}
	s.expect("initial", s.p.View(1, 0), api.DeviceView{State: api.D3Cold, Base: 0x2000})
	s.expect("release", s.p.Release(1, 0), api.ErrState)
	s.expect("use", s.p.Use(1, 10), api.OK)
	s.expect("request", s.p.Request(1, "init"), api.OK)
	s.p.Deliver(14)
	s.trace()
	s.expect("rails ramp", s.p.View(1, 14), api.DeviceView{State: api.D0, Usage: 1, Queued: 1, Base: 0x2000})
	s.expect("disabled", s.bus.Enabled(1), false)
	s.p.Deliver(15)
	s.trace(0x2004, 1, 0x2008, 2)
	s.expect("done", s.p.View(1, 15), api.DeviceView{State: api.D0, Accessible: true, Usage: 1, Driver: 1, Base: 0x2000})
	s.expect("enabled", s.bus.Enabled(1), true)
	for range api.MaxRequests {
		s.expect("request", s.p.Request(1, "none"), api.OK)
	}
	s.expect("full", s.p.Request(1, "none"), api.ErrFull)
	s.p.Deliver(16)
	s.trace()
	s.expect("release", s.p.Release(1, 20), api.OK)
	s.p.Advance(23)
	s.expect("active", s.p.View(1, 23).State, api.D0)
	s.p.Advance(24)
	s.expect("suspended", s.p.View(1, 24).State, api.D3Hot)
	s.expect("owner", s.bus.Enabled(1) || !s.bus.Enabled(0), false)
	s.p.Advance(34)
	s.expect("parent suspended", s.p.View(0, 34).State, api.D3Hot)
	s.expect("owner", s.bus.Enabled(0), false)
	for range 255 {
		s.p.Use(0, 40)
	}
	s.expect("too many uses", s.p.Use(0, 40), api.ErrFull)
}

// P44.4: guards and failed accesses.
func TestPerform(t *testing.T) {
	s := newStage(t, boardDevice(0, -1, 0))
	s.p.Use(0, 0)
	s.bus.Poke(0, 0x100C, 2)
	s.p.Request(0, "check")
	s.p.Deliver(0)
	s.trace(0x100C, 2, 0x100C, 2, 0x1014, 0)
	s.bus.PlanFault(0, api.Range{Base: 0x1000, Len: 256}, 1)
	s.p.Request(0, "check")
	s.p.Deliver(0)
	s.trace(0x100C, 0, 0x1010, 5)
	s.expect("a failed read gives ones", s.p.View(0, 0).Driver, 1)
}

// P44.5: stopping, moving and starting.
func TestMove(t *testing.T) {
	s := newStage(t, boardDevice(0, -1, 0), boardDevice(1, -1, 0))
	s.p.Use(0, 0)
	s.p.Start(0, 0)
	s.trace(0x1000, 7)
	s.p.Stop(0, 1)
	s.trace(0x1020, 1)
	s.p.Stop(0, 1)
	s.p.Stop(1, 1)
	s.p.Stop(9, 1)
	s.p.Start(-1, 1)
	s.p.Request(0, "init")
	s.p.Deliver(1)
	s.trace()
	s.expect("queued", s.p.View(0, 1).Queued, 1)
	s.expect("number", s.p.Move([]uint64{0}, 1), api.ErrInvalid)
	s.expect("aligned", s.p.Move([]uint64{0x2000, 0x1080}, 1), api.ErrInvalid)
	s.bus.Poke(0, 0x10FF, 77)
	s.expect("swap", s.p.Move([]uint64{0x2000, 0x1000}, 1), api.OK)
	v, _ := s.bus.Peek(0, 0x20FF)
	s.expect("contents", v, byte(77))
	v, _ = s.bus.Peek(0, 0x10FF)
	s.expect("contents", v, byte(0))
	s.expect("owner", s.bus.Owner(0, 0x2000)*10+s.bus.Owner(0, 0x1000), 1)
	s.p.Start(0, 2)
	s.trace(0x2000, 7)
	s.p.Start(1, 2)
	s.p.Deliver(2)
	s.trace()
	s.expect("base", s.p.View(0, 2).Base, uint64(0x2000))
	s.bus.Map(0, api.Range{Base: 0x5000, Len: 16}, 200)
	s.expect("occupied", s.p.Move([]uint64{0x5000, 0x6000}, 2), api.ErrBusy)
	s.expect("not mapped", s.bus.Owner(0, 0x6000)+s.bus.Owner(0, 0x2000)+s.bus.Owner(0, 0x1000), -3)
}

// P44.6: the phases of sleep.
func TestPhase(t *testing.T) {
	s := newStage(t, boardDevice(0, -1, 100, 0), boardDevice(1, -1, 0))
	phase := func(phase, device, system int, now uint64) api.Errno {
		return s.p.Phase(api.SleepOp{Phase: phase, Device: device}, system, now)
	}
	s.expect("device", phase(0, 2, 9, 0), api.ErrNotFound)
	s.expect("phase", phase(0, 0, 3, 0), api.ErrInvalid)
	s.expect("phase", phase(9, 0, 3, 0), api.ErrInvalid)
	s.expect("system", phase(1, 0, 0, 0), api.ErrInvalid)
	s.expect("system", phase(1, 0, 5, 0), api.ErrInvalid)
	s.p.Use(0, 0)
	s.expect("not accessible", phase(api.PhaseSuspend, 0, 3, 4), api.ErrBusy)
	s.p.Request(0, "init")
	s.expect("queue", phase(api.PhaseSuspend, 0, 3, 5), api.ErrBusy)
	s.p.Deliver(5)
	s.p.Request(0, "stop")
	s.p.Deliver(5)
	s.trace(0x1004, 1, 0x1008, 2, 0x1020, 1)
	for _, p := range []int{api.PhasePrepare, api.PhaseLate, api.PhaseResumeEarly, api.PhaseComplete} {
		s.expect("no effect", phase(p, 0, 3, 5), api.OK)
	}
	s.expect("suspend", phase(api.PhaseSuspend, 0, 3, 6), api.OK)
	s.trace(0x1018, 1)
	s.p.EnableWake(0, true)
	s.expect("wake from S4", phase(api.PhaseNoIRQ, 0, 4, 6), api.ErrDenied)
	s.expect("noirq", phase(api.PhaseNoIRQ, 0, 3, 6), api.OK)
	s.expect("state", s.p.View(0, 6).State, api.D2)
	s.p.EnableWake(0, false)
	s.expect("noirq", phase(api.PhaseNoIRQ, 0, 4, 6), api.OK)
	s.expect("state", s.p.View(0, 6).State, api.D3Cold)
	s.expect("deeper state stays", phase(api.PhaseNoIRQ, 0, 1, 6), api.OK)
	s.expect("state", s.p.View(0, 6).State, api.D3Cold)
	s.expect("owner", s.bus.Enabled(0), false)
	s.expect("resume", phase(api.PhaseResumeNoIRQ, 0, 4, 10), api.OK)
	s.expect("state", s.p.View(0, 10), api.DeviceView{State: api.D0, Usage: 1, Base: 0x1000})
	for range api.MaxRequests {
		s.p.Request(0, "none")
	}
	s.expect("resume", phase(api.PhaseResume, 0, 4, 10), api.OK)
	s.expect("queue", s.p.View(0, 10).Queued, api.MaxRequests+1)
	s.expect("full", s.p.Request(0, "none"), api.ErrFull)
	s.p.Deliver(15)
	s.trace(0x101C, 1)
	s.expect("an unused device", phase(api.PhaseSuspend, 1, 3, 16), api.OK)
	s.expect("an unused device", phase(api.PhaseResume, 1, 3, 16), api.OK)
	s.expect("no event", s.p.View(1, 16).Queued, 0)
	child := newStage(t, boardDevice(0, -1, 0), boardDevice(1, 0, 0))
	child.p.Use(1, 0)
	child.expect("a child is shallower", child.p.Phase(api.SleepOp{Phase: api.PhaseNoIRQ, Device: 0}, 3, 1), api.ErrState)
	if strings.Count(driverText, "resume") != 1 {
		t.Error("driver")
	}
}
