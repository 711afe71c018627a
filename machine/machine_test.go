package machine

import (
	"reflect"
	"slices"
	"testing"

	"platformfw/allocate"
	"platformfw/api"
	"platformfw/enumerate"
)

// rig is a machine under test.
type rig struct {
	t *testing.T
	*Machine
}

func newRig(t *testing.T, b api.Board) *rig {
	t.Helper()
	m, e := New(b)
	if e != api.OK {
		t.Fatal(e)
	}
	return &rig{t, m}
}

// do performs an event, and tests the error and the value of its outcome.
func (r *rig) do(e api.Event, err api.Errno, value uint64) api.Outcome {
	r.t.Helper()
	out := r.Step(e)
	if out.Err != err || out.Value != value {
		r.t.Errorf("%v: got %d %d, want %d %d", e, out.Err, out.Value, err, value)
	}
	return out
}

func (r *rig) ok(kind, a, b int, n uint64) api.Outcome {
	r.t.Helper()
	return r.do(api.Event{Kind: kind, A: a, B: b, N: n}, api.OK, 0)
}

func (r *rig) on() api.Outcome { r.t.Helper(); return r.ok(api.EvPowerOn, 0, 0, 0) }

func (r *rig) expect(what string, got, want any) {
	r.t.Helper()
	if !reflect.DeepEqual(got, want) {
		r.t.Errorf("%s: got %v, want %v", what, got, want)
	}
}

// P45.2: which events are permitted in which mode.
func TestPermitted(t *testing.T) {
	r := newRig(t, fullBoard(t))
	for _, kind := range []int{-1, 0, 25} {
		r.do(api.Event{Kind: kind}, api.ErrInvalid, 0)
	}
	for kind := api.EvTick; kind <= api.EvCut; kind++ {
		want := api.ErrDown
		switch kind {
		case api.EvTick, api.EvWake, api.EvSource, api.EvAlarm, api.EvLoad:
			want = api.OK
		case api.EvInsert, api.EvSlot:
			want = api.ErrNotFound
		case api.EvPowerLoss:
			want = api.ErrState
		case api.EvPowerOn, api.EvCut:
			continue
		}
		r.do(api.Event{Kind: kind}, want, 0)
	}
	r.on()
	r.do(api.Event{Kind: api.EvPowerOn}, api.ErrState, 0)
	r.ok(api.EvSection, 0, 0, 15)
	r.ok(api.EvSleep, 3, 0, 0)
	r.expect("mode", r.Snapshot().Mode, api.ModeFreezing)
	for _, kind := range []int{api.EvWrite, api.EvRead, api.EvSection, api.EvUse, api.EvRelease, api.EvRequest, api.EvSleep, api.EvCall, api.EvThread} {
		r.do(api.Event{Kind: kind, A: 99}, api.ErrState, 0)
	}
	for _, kind := range []int{api.EvPoke, api.EvWakeEnable, api.EvLine} {
		r.do(api.Event{Kind: kind, B: 1}, api.OK, 0)
	}
	r.do(api.Event{Kind: api.EvSlot, A: 2, B: api.HotPowerOn}, api.ErrState, 0)
}

// P45.3: time, power and booting.
func TestPower(t *testing.T) {
	r := newRig(t, fullBoard(t))
	r.do(api.Event{Kind: api.EvTick, N: api.MaxAdvance + 1}, api.ErrInvalid, 0)
	r.ok(api.EvTick, 0, 0, 7)
	out := r.on()
	functions := r.board.Functions
	numbers, _ := enumerate.Buses(functions, 16)
	a, _, _ := allocate.Assign(functions, r.board.Host)
	r.expect("config", out.Config, append(enumerate.Writes(functions, numbers), allocate.Writes(functions, a)...))
	s := r.Snapshot()
	r.expect("state", []int{int(s.Clock), s.Mode, s.Booted, s.Sleep, int(s.LastSleep), s.Functions}, []int{7, api.ModeRunning, 1, 0, 0, 4})
	r.expect("device", s.Devices[0], api.DeviceView{State: api.D3Cold, Base: a[1].Base})
	r.ok(api.EvWrite, 0, 5, 0x1FF)
	r.do(api.Event{Kind: api.EvRead, B: 5}, api.OK, 255)
	r.ok(api.EvPowerLoss, 0, 0, 0)
	r.expect("mode", r.Snapshot().Mode, api.ModeOff)
	r.on()
	r.do(api.Event{Kind: api.EvRead, B: 5}, api.OK, 0)
	r.expect("resumed", r.Snapshot().Resumed, false)
	for _, c := range []api.Event{{A: 2}, {A: -1}, {N: api.MaxField + 1}} {
		c.Kind = api.EvCut
		r.do(c, api.ErrInvalid, 0)
	}
	r.clock = api.MaxTime - 3
	r.sources.Advance(r.clock)
	r.ok(api.EvTick, 0, 0, 10)
	r.expect("clock", r.Snapshot().Clock, uint64(api.MaxTime))
	none := smallBoard()
	none.Images = []string{"bad"}
	r = newRig(t, none)
	r.do(api.Event{Kind: api.EvPowerOn}, api.ErrNotFound, 0)
	r.expect("mode", r.Snapshot().Mode, api.ModeOff)
}

// P45.3: power losses during writes of the flash and of the block device.
func TestCut(t *testing.T) {
	r := newRig(t, smallBoard())
	r.ok(api.EvCut, 1, 0, 0)
	r.do(api.Event{Kind: api.EvPowerOn}, api.ErrDown, 0)
	r.expect("mode", r.Snapshot().Mode, api.ModeOff)
	r.ok(api.EvCut, 1, 3, 1)
	out := r.do(api.Event{Kind: api.EvPowerOn}, api.ErrDown, 0) // the success cannot be stored
	r.expect("mode", r.Snapshot().Mode, api.ModeOff)
	r.expect("no configuration accesses", len(out.Config), 0)
	r.on()
	r.ok(api.EvWrite, 0, 5, 9)
	r.ok(api.EvCut, 0, 0, 2)
	r.do(api.Event{Kind: api.EvSleep, A: 4}, api.ErrDown, 0)
	r.expect("mode", r.Snapshot().Mode, api.ModeOff)
	r.on()
	r.do(api.Event{Kind: api.EvRead, B: 5}, api.OK, 0)
	r.ok(api.EvCut, 1, 0, 0)
	r.ok(api.EvPowerLoss, 0, 0, 0)
	r.do(api.Event{Kind: api.EvPowerOn}, api.ErrDown, 0) // the plan for the flash has survived
}

// P45.4: processes.
func TestProcesses(t *testing.T) {
	r := newRig(t, smallBoard())
	r.on()
	for _, c := range []api.Event{{A: 1}, {A: -1}, {B: 512}, {B: -1}} {
		for _, kind := range []int{api.EvWrite, api.EvRead} {
			c.Kind = kind
			r.do(c, api.ErrInvalid, 0)
		}
	}
	r.ok(api.EvWrite, 0, 511, 3)
	r.do(api.Event{Kind: api.EvRead, B: 511}, api.OK, 3)
	r.do(api.Event{Kind: api.EvSection, N: api.MaxTime + 1}, api.ErrInvalid, 0)
	r.do(api.Event{Kind: api.EvSection, A: 1}, api.ErrInvalid, 0)
}

// drivers returns the addresses of the accesses of drivers, relative to a base, and tests that they were live.
func (r *rig) drivers(out api.Outcome, base uint64) []uint64 {
	r.t.Helper()
	var l []uint64
	for _, x := range out.Drivers {
		if !x.Live {
			r.t.Error(x)
		}
		l = append(l, x.Access.Addr-base)
	}
	return l
}

// P45.4: devices.
func TestDevices(t *testing.T) {
	r := newRig(t, fullBoard(t))
	r.on()
	base := r.Snapshot().Devices[1].Base
	r.do(api.Event{Kind: api.EvUse, A: 2}, api.ErrNotFound, 0)
	r.do(api.Event{Kind: api.EvRelease, A: 1}, api.ErrState, 0)
	r.do(api.Event{Kind: api.EvRequest, A: 1, S: "go"}, api.ErrState, 0)
	r.ok(api.EvUse, 1, 0, 0)
	out := r.do(api.Event{Kind: api.EvRequest, A: 1, S: "go"}, api.OK, 0)
	r.expect("not yet", len(out.Drivers), 0)
	out = r.ok(api.EvTick, 0, 0, 2)
	r.expect("delivered", r.drivers(out, base), []uint64{4})
	r.do(api.Event{Kind: api.EvPoke, A: 2}, api.ErrNotFound, 0)
	r.do(api.Event{Kind: api.EvPoke, A: 1, B: 256}, api.ErrInvalid, 0)
	r.do(api.Event{Kind: api.EvPoke, A: 1, B: -1}, api.ErrInvalid, 0)
	r.ok(api.EvPoke, 1, 8, 0x101)
	out = r.do(api.Event{Kind: api.EvRequest, A: 1, S: "look"}, api.OK, 0)
	r.expect("guard", r.drivers(out, base), []uint64{8, 12})
	r.expect("value", out.Drivers[0].Access.Value, uint64(1))
	r.do(api.Event{Kind: api.EvFault, A: 2, N: 1}, api.ErrNotFound, 0)
	r.do(api.Event{Kind: api.EvFault, A: 1, N: 0}, api.ErrInvalid, 0)
	r.do(api.Event{Kind: api.EvFault, A: 1, N: 65}, api.ErrInvalid, 0)
	r.ok(api.EvFault, 0, 0, 1)
	out = r.do(api.Event{Kind: api.EvRequest, A: 0, S: "x"}, api.ErrState, 0)
	r.do(api.Event{Kind: api.EvWakeEnable, A: 5}, api.ErrNotFound, 0)
	r.do(api.Event{Kind: api.EvLoad, A: 1}, api.ErrNotFound, 0)
	r.do(api.Event{Kind: api.EvLoad, B: 101}, api.ErrInvalid, 0)
	r.ok(api.EvRelease, 1, 0, 0)
	r.ok(api.EvTick, 0, 0, 5)
	r.expect("suspended", r.Snapshot().Devices[1].State, api.D3Hot)
}

// P45.5: hot-plug.
func TestHotplug(t *testing.T) {
	r := newRig(t, fullBoard(t))
	r.do(api.Event{Kind: api.EvInsert, A: 0}, api.ErrNotFound, 0)
	r.do(api.Event{Kind: api.EvSlot, A: 9, B: api.HotRemove}, api.ErrNotFound, 0)
	r.do(api.Event{Kind: api.EvInsert, A: 2, B: 3}, api.ErrInvalid, 0)
	r.do(api.Event{Kind: api.EvInsert, A: 2, B: -1}, api.ErrInvalid, 0)
	r.ok(api.EvInsert, 2, 0, 0)
	r.do(api.Event{Kind: api.EvInsert, A: 2, B: 0}, api.ErrState, 0)
	r.do(api.Event{Kind: api.EvSlot, A: 2, B: api.HotPowerOn}, api.ErrState, 0)
	r.do(api.Event{Kind: api.EvSlot, A: 2, B: api.HotInsert}, api.ErrInvalid, 0)
	r.on()
	slot := func(port, event int, want api.Errno) {
		t.Helper()
		r.do(api.Event{Kind: api.EvSlot, A: port, B: event}, want, 0)
	}
	slot(2, 99, api.ErrInvalid)
	slot(2, api.HotPowerOn, api.OK)
	r.expect("not yet", len(r.ok(api.EvTick, 0, 0, 2).Moves), 0)
	out := r.ok(api.EvTick, 0, 0, 1)
	r.expect("moves", out.Moves, []api.Move{{Kind: api.MoveWrite, Function: 4, Base: out.Moves[0].Base}, {Kind: api.MoveStart, Function: 4}})
	numbers, _ := enumerate.Buses(r.functions, 16)
	r.expect("config", out.Config, append(enumerate.Writes(r.functions, numbers), allocate.Writes(r.functions, r.assigned)...))
	s := r.Snapshot()
	r.expect("state", append([]int{s.Functions}, s.Slots...), []int{5, api.SlotOn, api.SlotEmpty})
	r.ok(api.EvInsert, 3, 1, 0)
	r.ok(api.EvUse, 0, 0, 0)
	r.ok(api.EvTick, 0, 0, 2)
	before := r.Snapshot().Devices[0].Base
	r.ok(api.EvPoke, 0, 200, 77)
	slot(3, api.HotPowerOn, api.OK)
	out = r.ok(api.EvTick, 0, 0, 3)
	after := r.Snapshot().Devices[0].Base
	if after == before || !allocate.Check(r.functions, r.board.Host, r.assigned) {
		t.Error("the large card makes the others move")
	}
	r.expect("stop and start", []uint64{out.Drivers[0].Access.Addr - before, out.Drivers[1].Access.Addr - after}, []uint64{24, 0})
	v, _ := r.bus.Peek(0, after+200)
	r.expect("contents", v, byte(77))
	slot(3, api.HotEject, api.OK)
	slot(3, api.HotStopped, api.OK)
	r.expect("functions", r.Snapshot().Functions, 5)
	slot(3, api.HotRemove, api.OK)
	r.ok(api.EvInsert, 3, 2, 0)
	slot(3, api.HotPowerOn, api.OK)
	old := slices.Clone(r.assigned)
	out = r.ok(api.EvTick, 0, 0, 3)
	r.expect("a refused card", []int{len(out.Moves), len(out.Config), r.Snapshot().Functions, r.Snapshot().Slots[1]}, []int{0, 0, 5, api.SlotFailed})
	r.expect("assignments", r.assigned, old)
	slot(2, api.HotRemove, api.OK)
	r.expect("surprise removal", r.Snapshot().Functions, 4)
	r.ok(api.EvInsert, 2, 0, 0)
	slot(2, api.HotPowerOn, api.OK)
	r.ok(api.EvPowerLoss, 0, 0, 0)
	r.expect("slots", r.Snapshot().Slots, []int{api.SlotFailed, api.SlotFailed})
}

// P45.6: the methods of the tables.
func TestMethods(t *testing.T) {
	r := newRig(t, fullBoard(t))
	r.on()
	r.do(api.Event{Kind: api.EvCall, S: "\\NONE"}, api.ErrNotFound, 0)
	r.do(api.Event{Kind: api.EvCall, S: "\\ARG"}, api.ErrInvalid, 0)
	r.do(api.Event{Kind: api.EvThread, A: 1}, api.ErrNotFound, 0)
	r.do(api.Event{Kind: api.EvCall, S: "\\RUN"}, api.OK, 1)
	r.expect("threads", r.Snapshot().Threads, []int{1})
	var accesses []api.Traced
	for i := range 7 {
		want := uint64(api.ThreadRunning)
		if i == 6 {
			want = api.ThreadDone
		}
		out := r.do(api.Event{Kind: api.EvThread, A: 1}, api.OK, want)
		accesses = append(accesses, out.Methods...)
		r.expect("drivers", len(out.Drivers), 0)
	}
	r.expect("accesses", len(accesses), 3)
	r.expect("write", accesses[1], api.Traced{Access: api.Access{Addr: 16, Width: 1, Write: true, Value: 1}, Owner: api.SystemOwner, Live: true})
	r.expect("collected", len(r.Snapshot().Threads), 0)
	r.do(api.Event{Kind: api.EvLine, A: 64, Flag: true}, api.ErrNotFound, 0)
	r.do(api.Event{Kind: api.EvLine, A: 5, Flag: true}, api.OK, 0)
	r.expect("handler", r.Snapshot().Threads, []int{2})
	r.do(api.Event{Kind: api.EvLine, A: 5}, api.OK, 0)
	r.do(api.Event{Kind: api.EvLine, A: 5, Flag: true}, api.OK, 0)
	r.expect("one at a time", r.Snapshot().Threads, []int{2})
	r.do(api.Event{Kind: api.EvLine, A: 6, Flag: true}, api.OK, 0)
	r.do(api.Event{Kind: api.EvLine, A: 7, Flag: true}, api.OK, 0)
	r.expect("methods that cannot be started", r.events.Status(6) || r.events.Status(7), false)
	var notes []api.Notification
	for i := range 4 {
		want := uint64(api.ThreadRunning)
		if i == 3 {
			want = api.ThreadDone
		}
		notes = append(notes, r.do(api.Event{Kind: api.EvThread, A: 2}, api.OK, want).Notes...)
	}
	r.expect("notes", len(notes) == 1 && notes[0].Value == 7, true)
	r.expect("collected", len(r.Snapshot().Threads), 0)
	r.ok(api.EvTick, 0, 0, 1)
	r.expect("the pending event follows", r.Snapshot().Threads, []int{3})
}

// P45.7: runs of the thermal control.
func TestThermal(t *testing.T) {
	r := newRig(t, fullBoard(t))
	r.ok(api.EvLoad, 0, 100, 0)
	r.ok(api.EvTick, 0, 0, 9)
	r.on()
	r.expect("no run", r.Snapshot().Powers, []int64{0})
	r.ok(api.EvTick, 0, 0, 1)
	s := r.Snapshot()
	r.expect("one run", []any{s.Powers, s.Points, s.Temperatures}, []any{[]int64{40}, []int{1}, []int64{24}})
	r.ok(api.EvTick, 0, 0, 9)
	r.expect("no run", r.Snapshot().Temperatures, []int64{24})
	r.ok(api.EvTick, 0, 0, 21)
	r.expect("three runs", r.Snapshot().Temperatures, []int64{32})
	r.ok(api.EvPowerLoss, 0, 0, 0)
	r.ok(api.EvTick, 0, 0, 10)
	r.expect("off", []any{r.Snapshot().Powers, r.Snapshot().Temperatures}, []any{[]int64{0}, []int64{29}})
	r.on()
	r.expect("restarted", r.Snapshot().Points, []int{0})
}
