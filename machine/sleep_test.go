package machine

import (
	"testing"

	"platformfw/api"
)

// steps performs EvContinue until the machine is in another mode than ModeChanging.
func (r *rig) steps() api.Outcome {
	r.t.Helper()
	var out api.Outcome
	for range 200 {
		if r.Snapshot().Mode != api.ModeChanging {
			return out
		}
		out = r.Step(api.Event{Kind: api.EvContinue})
	}
	r.t.Error("the transition does not end")
	return out
}

// P45.6: sleeping in S3 and waking.
func TestSleep(t *testing.T) {
	r := newRig(t, smallBoard())
	r.on()
	r.ok(api.EvWrite, 0, 5, 42)
	r.do(api.Event{Kind: api.EvSleep, A: 0}, api.ErrInvalid, 0)
	r.ok(api.EvSleep, 3, 0, 0)
	r.expect("asleep", r.Snapshot().Mode, api.ModeAsleep)
	r.do(api.Event{Kind: api.EvRead, B: 5}, api.ErrState, 0)
	r.do(api.Event{Kind: api.EvContinue}, api.ErrState, 0)
	r.ok(api.EvWake, 0, 0, 0)
	r.expect("running", r.Snapshot().Mode, api.ModeRunning)
	r.do(api.Event{Kind: api.EvRead, B: 5}, api.OK, 42)
	r.do(api.Event{Kind: api.EvWake, A: 1}, api.ErrInvalid, 0)
	r.do(api.Event{Kind: api.EvAlarm, N: api.MaxTime + 1}, api.ErrInvalid, 0)
	r.ok(api.EvAlarm, 0, 0, 10)
	r.ok(api.EvSleep, 1, 0, 0)
	r.ok(api.EvTick, 0, 0, 9)
	r.expect("asleep", r.Snapshot().Mode, api.ModeAsleep)
	r.ok(api.EvTick, 0, 0, 1)
	r.expect("the alarm wakes", r.Snapshot().Mode, api.ModeRunning)
	r.do(api.Event{Kind: api.EvSource, Flag: true}, api.OK, 0)
	r.do(api.Event{Kind: api.EvSleep, A: 3}, api.ErrBusy, 0)
	r.do(api.Event{Kind: api.EvSource}, api.OK, 0)
	r.ok(api.EvSection, 0, 0, 100)
	r.ok(api.EvSleep, 3, 0, 0)
	r.ok(api.EvTick, 0, 0, 20)
	s := r.Snapshot()
	r.expect("timeout", []int{s.Mode, s.Sleep, int(s.LastSleep)}, []int{api.ModeRunning, 3, int(api.ErrTimeout)})
}

// P45.3 and P45.6: hibernation keeps the memory and the uses of devices.
func TestHibernate(t *testing.T) {
	r := newRig(t, fullBoard(t))
	r.on()
	r.ok(api.EvUse, 1, 0, 0)
	r.ok(api.EvUse, 1, 0, 0)
	r.ok(api.EvTick, 0, 0, 5)
	r.ok(api.EvWrite, 0, 300, 42)
	r.ok(api.EvSleep, 4, 0, 0)
	r.expect("changing", r.Snapshot().Mode, api.ModeChanging)
	out := r.steps()
	r.expect("off", []int{r.Snapshot().Mode, int(out.Err)}, []int{api.ModeOff, 0})
	r.on()
	s := r.Snapshot()
	r.expect("resumed", []int{s.Devices[0].Usage, s.Devices[1].Usage, s.Devices[1].State}, []int{0, 2, api.D0})
	r.expect("resumed", s.Resumed, true)
	r.do(api.Event{Kind: api.EvRead, B: 300}, api.OK, 42)
	r.ok(api.EvPowerLoss, 0, 0, 0)
	r.on()
	r.do(api.Event{Kind: api.EvRead, B: 300}, api.OK, 0)
	r.expect("resumed once", r.Snapshot().Resumed, false)
	r.ok(api.EvWrite, 0, 300, 42)
	r.ok(api.EvSleep, 4, 0, 0)
	r.steps()
	r.ok(api.EvInsert, 2, 0, 0)
	r.on()
	r.expect("another card", r.Snapshot().Resumed, false)
	r.ok(api.EvPowerLoss, 0, 0, 0)
	r.do(api.Event{Kind: api.EvSlot, A: 2, B: api.HotRemove}, api.OK, 0)
	r.on()
	r.expect("the image was discarded", r.Snapshot().Resumed, false)
}

// P45.2 and P45.6: accesses in the step in which the power is lost, and a disk that is too small.
func TestHibernateEdges(t *testing.T) {
	b := fullBoard(t)
	b.Sectors = 2
	r := newRig(t, b)
	r.on()
	r.ok(api.EvUse, 0, 0, 0)
	r.ok(api.EvTick, 0, 0, 2)
	for i := range 512 {
		r.ok(api.EvWrite, 0, i, uint64(i*i+1))
	}
	r.ok(api.EvSleep, 4, 0, 0)
	r.steps()
	s := r.Snapshot()
	r.expect("woken early", []int{s.Mode, int(s.LastSleep)}, []int{api.ModeRunning, int(api.ErrFull)})
	r.do(api.Event{Kind: api.EvRead, B: 3}, api.OK, 10)
	r.ok(api.EvTick, 0, 0, 2)
	r.do(api.Event{Kind: api.EvCut, A: 0, N: 0}, api.OK, 0)
	r.ok(api.EvWrite, 0, 0, 1)
	r.expect("a plan alone does nothing", r.Snapshot().Mode, api.ModeRunning)
	small := newRig(t, smallBoard())
	small.on()
	small.ok(api.EvSection, 0, 0, 5)
	small.ok(api.EvSleep, 4, 0, 0)
	small.ok(api.EvCut, 0, 0, 1)
	small.do(api.Event{Kind: api.EvTick, N: 5}, api.ErrDown, 0)
	small.expect("off", small.Snapshot().Mode, api.ModeOff)
	small.on()
	small.ok(api.EvSection, 0, 0, 5)
	small.ok(api.EvSleep, 4, 0, 0)
	small.ok(api.EvTick, 0, 0, 5)
	small.expect("off", small.Snapshot().Mode, api.ModeOff)
	small.ok(api.EvCut, 0, 0, 0)
	small.do(api.Event{Kind: api.EvPowerOn}, api.ErrDown, 0)
	small.on()
	small.expect("the image survives a power loss while it is discarded", small.Snapshot().Resumed, true)
}

// P45.6: a wake event in any step of a transition is not lost, and what processes see does not change.
func TestWakeRace(t *testing.T) {
	for _, system := range []int{3, 4} {
		for at := range 9 {
			r := newRig(t, fullBoard(t))
			r.on()
			r.ok(api.EvUse, 1, 0, 0)
			r.ok(api.EvTick, 0, 0, 5)
			r.ok(api.EvWrite, 0, 9, 5)
			r.ok(api.EvSleep, system, 0, 0)
			for range at {
				r.Step(api.Event{Kind: api.EvContinue})
			}
			r.Step(api.Event{Kind: api.EvWake})
			if r.Snapshot().Mode == api.ModeOff {
				r.on()
			}
			r.steps()
			s := r.Snapshot()
			if s.Mode != api.ModeRunning || s.Devices[1].Usage != 1 || s.Devices[1].State != api.D0 {
				t.Error(system, at, s)
			}
			r.do(api.Event{Kind: api.EvRead, B: 9}, api.OK, 5)
		}
	}
}
