package control

import (
	"testing"

	"platformfw/api"
	"platformfw/hibernate"
	"platformfw/wakeup"
)

// night is a sleep control with what it works on.
type night struct {
	*stage
	w *wakeup.Sources
	f *hibernate.Freezer
	s *Sleep
}

func newNight(t *testing.T, devices ...api.BoardDevice) *night {
	t.Helper()
	n := &night{stage: newStage(t, devices...)}
	n.w, _ = wakeup.New(2)
	n.f, _ = hibernate.NewFreezer(1)
	n.s = NewSleep(n.p, n.w, n.f)
	n.is(api.ModeRunning, 0, api.OK)
	return n
}

func (n *night) is(mode, system int, last api.Errno) {
	n.t.Helper()
	if n.s.Mode() != mode || n.s.System() != system || n.s.Last() != last {
		n.t.Errorf("got %d %d %d, want %d %d %d", n.s.Mode(), n.s.System(), n.s.Last(), mode, system, last)
	}
}

func (n *night) steps(count int, now uint64) {
	n.t.Helper()
	for range count {
		n.expect("continue", n.s.Continue(now), api.OK)
	}
}

// P44.8: beginning a transition.
func TestBegin(t *testing.T) {
	n := newNight(t)
	for _, c := range []struct {
		system       int
		now, timeout uint64
	}{{0, 0, 1}, {5, 0, 1}, {3, 5, api.MaxTime - 4}, {3, 5, 1<<64 - 1}} {
		n.expect("invalid", n.s.Begin(c.system, c.now, c.timeout), api.ErrInvalid)
	}
	n.expect("continue", n.s.Continue(0), api.ErrState)
	n.expect("wake", n.s.WakeEarly(api.ErrFull, 0), api.ErrState)
	n.w.Activate(0, 0)
	n.expect("active source", n.s.Begin(3, 0, 10), api.ErrBusy)
	n.w.Deactivate(0, 0)
	n.is(api.ModeRunning, 0, api.OK)
	n.expect("begin", n.s.Begin(3, 0, 10), api.OK)
	n.is(api.ModeAsleep, 3, api.OK)
	n.expect("again", n.s.Begin(9, 0, 10), api.ErrState)
	n.s.Settle(5)
	n.is(api.ModeAsleep, 3, api.OK)
	n.w.Pulse(0, 6, 0)
	n.s.Settle(6)
	n.is(api.ModeRunning, 3, api.OK)
	n.expect("thawed", n.f.Frozen(0), false)
	n.expect("disarmed", n.w.MustAbort(), false)
	n.s.Begin(4, 7, 10)
	n.expect("early", n.s.WakeEarly(api.ErrFull, 8), api.OK)
	n.is(api.ModeRunning, 4, api.ErrFull)
}

// P44.8 and P44.9: freezing.
func TestFreezing(t *testing.T) {
	n := newNight(t)
	n.f.Enter(0, 20, 0)
	n.s.Begin(3, 0, 10)
	n.is(api.ModeFreezing, 3, api.OK)
	n.expect("continue", n.s.Continue(1), api.ErrState)
	n.s.Settle(9)
	n.is(api.ModeFreezing, 3, api.OK)
	n.s.Settle(10)
	n.is(api.ModeRunning, 3, api.ErrTimeout)
	n.s.Begin(2, 11, 0)
	n.is(api.ModeRunning, 2, api.ErrTimeout)
	n.s.Begin(2, 11, 20)
	n.w.Pulse(1, 12, 0)
	n.s.Settle(12)
	n.is(api.ModeRunning, 2, api.ErrAborted)
	n.s.Begin(1, 13, 20)
	n.s.Settle(20)
	n.is(api.ModeAsleep, 1, api.ErrAborted)
}

// P44.9: a whole transition, with a wake event while asleep.
func TestTransition(t *testing.T) {
	n := newNight(t, boardDevice(0, -1, 100, 0), boardDevice(1, 0, 100))
	n.p.Use(1, 0)
	n.p.Request(1, "init")
	n.p.Deliver(5)
	n.bus.TakeTrace()
	before := n.p.View(1, 5)
	n.s.Begin(4, 6, 10)
	n.is(api.ModeChanging, 4, api.OK)
	n.steps(8, 6)
	n.is(api.ModeAsleep, 4, api.OK)
	n.expect("states", n.p.View(0, 6).State*10+n.p.View(1, 6).State, 44)
	n.trace(0x1018, 1)
	n.w.Activate(0, 7)
	n.s.Settle(7)
	n.is(api.ModeChanging, 4, api.OK)
	n.steps(8, 8)
	n.is(api.ModeRunning, 4, api.OK)
	after := n.p.View(1, 13)
	before.Queued = 1
	n.expect("as before", after, before)
}

// P44.8 and P44.9: wake events during a transition abort it.
func TestAborts(t *testing.T) {
	for at := range 9 {
		n := newNight(t, boardDevice(0, -1, 100, 0), boardDevice(1, 0, 100))
		n.p.Use(1, 0)
		n.s.Begin(3, 6, 10)
		n.steps(at, 6)
		n.w.Pulse(0, 6, 0)
		if at < 8 {
			n.is(api.ModeChanging, 3, api.OK)
		}
		for range 40 {
			n.s.Settle(7)
			n.s.Continue(7)
		}
		want := api.ErrAborted
		if at == 8 {
			want = api.OK // the event came while the system was asleep
		}
		n.is(api.ModeRunning, 3, want)
		n.expect("awake", n.p.View(1, 12).State, api.D0)
	}
	n := newNight(t, boardDevice(0, -1, 100, 0))
	n.s.Begin(3, 0, 10)
	n.steps(3, 0)
	op, _ := n.s.sequence.Next()
	n.expect("last operation", op, api.SleepOp{Phase: api.PhaseNoIRQ, Device: 0})
	n.s.sequence.Complete(n.p.Phase(op, 3, 0))
	n.w.Pulse(1, 1, 50)
	n.s.examine(1)
	n.is(api.ModeChanging, 3, api.OK)
	n.steps(4, 2)
	n.is(api.ModeRunning, 3, api.ErrAborted)
}

// P44.9: failed operations undo the transition.
func TestFailures(t *testing.T) {
	n := newNight(t, boardDevice(0, -1, 100, 0))
	n.p.Use(0, 0)
	n.s.Begin(3, 1, 10)
	n.steps(2, 1)
	n.is(api.ModeChanging, 3, api.OK)
	n.steps(1, 1)
	n.is(api.ModeRunning, 3, api.ErrBusy)
	n.s.Begin(3, 5, 10)
	n.steps(3, 5)
	n.p.EnableWake(0, true)
	n.s.system = 4
	n.steps(4, 5)
	n.is(api.ModeRunning, 4, api.ErrDenied)
	n.expect("state", n.p.View(0, 5).State, api.D0)
}
