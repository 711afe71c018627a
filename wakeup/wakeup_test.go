package wakeup

import (
	"testing"

	"platformfw/api"
)

func sources(t *testing.T, n int) *Sources {
	t.Helper()
	s, e := New(n)
	if e != api.OK {
		t.Fatal(e)
	}
	return s
}

func counts(t *testing.T, s *Sources, events, active int) {
	t.Helper()
	if a, b := s.Counts(); a != events || b != active {
		t.Errorf("counts %d %d, want %d %d", a, b, events, active)
	}
}

func expect(t *testing.T, what string, got, want any) {
	t.Helper()
	if got != want {
		t.Errorf("%s: got %v, want %v", what, got, want)
	}
}

// P29.1 and P29.2: limits and wrong arguments.
func TestErrors(t *testing.T) {
	for _, n := range []int{-1, 33} {
		if s, e := New(n); s != nil || e != api.ErrInvalid {
			t.Error(n, e)
		}
	}
	s := sources(t, 32)
	counts(t, s, 0, 0)
	s.Advance(10)
	for _, c := range []struct {
		i   int
		now uint64
	}{{-1, 20}, {32, 20}, {0, 9}, {0, api.MaxTime + 1}} {
		if s.Activate(c.i, c.now) != api.ErrInvalid || s.Deactivate(c.i, c.now) != api.ErrInvalid || s.Pulse(c.i, c.now, 1) != api.ErrInvalid {
			t.Error(c)
		}
	}
	for _, now := range []uint64{9, api.MaxTime + 1} {
		if s.SetAlarm(now, 50) != api.ErrInvalid || s.Advance(now) != api.ErrInvalid || s.Arm(0, now) != api.ErrInvalid {
			t.Error(now)
		}
	}
	if s.Pulse(0, 20, api.MaxTime+1) != api.ErrInvalid || s.SetAlarm(20, api.MaxTime+1) != api.ErrInvalid {
		t.Error("long")
	}
	expect(t, "failed calls do not set the clock", s.Pulse(31, 10, api.MaxTime), api.OK)
	expect(t, "alarm", s.SetAlarm(10, api.MaxTime), api.OK)
	counts(t, s, 0, 1)
}

// P29.3 and P29.4: events.
func TestEvents(t *testing.T) {
	s := sources(t, 3)
	s.Pulse(0, 10, 5)
	s.Advance(14)
	counts(t, s, 0, 1)
	s.Pulse(0, 14, 3)
	s.Pulse(0, 14, 0)
	s.Advance(16)
	counts(t, s, 0, 1)
	s.Advance(17)
	counts(t, s, 1, 0)
	s.Pulse(1, 17, 0)
	counts(t, s, 2, 0)
	s.Activate(1, 18)
	s.Pulse(1, 18, 1)
	s.Advance(100)
	counts(t, s, 2, 1)
	s.Activate(1, 100)
	s.Deactivate(1, 100)
	s.Deactivate(1, 100)
	counts(t, s, 3, 0)
	s.Pulse(2, 100, 5)
	s.Activate(2, 101)
	s.Advance(200)
	counts(t, s, 3, 1)
	s.Deactivate(2, 200)
	s.Pulse(2, 200, 5)
	s.Activate(2, 205)
	counts(t, s, 5, 1)
}

// P29.3: the alarm.
func TestAlarm(t *testing.T) {
	s := sources(t, 0)
	s.SetAlarm(10, 20)
	s.SetAlarm(10, 30)
	s.Advance(29)
	counts(t, s, 0, 0)
	s.Advance(30)
	s.Advance(31)
	counts(t, s, 1, 0)
	s.SetAlarm(31, 5)
	counts(t, s, 2, 0)
	s.SetAlarm(31, 40)
	s.SetAlarm(50, 60)
	counts(t, s, 3, 0)
}

// P29.5: arming.
func TestArm(t *testing.T) {
	s := sources(t, 2)
	s.Pulse(0, 10, 5)
	expect(t, "active", s.Arm(0, 12), api.ErrBusy)
	expect(t, "not armed", s.MustAbort(), false)
	s.Advance(15)
	expect(t, "count", s.Arm(0, 16), api.ErrBusy)
	expect(t, "as if it had not advanced", s.Advance(15), api.OK)
	expect(t, "armed", s.Arm(1, 16), api.OK)
	expect(t, "quiet", s.MustAbort(), false)
	s.Activate(1, 17)
	expect(t, "active", s.MustAbort(), true)
	s.Deactivate(1, 18)
	expect(t, "ended", s.MustAbort(), true)
	expect(t, "again", s.Arm(2, 18), api.OK)
	expect(t, "quiet", s.MustAbort(), false)
	s.Pulse(0, 18, 0)
	expect(t, "failed", s.Arm(2, 19), api.ErrBusy)
	expect(t, "still armed", s.MustAbort(), true)
	s.Disarm()
	s.Disarm()
	expect(t, "disarmed", s.MustAbort(), false)
	s.Pulse(0, 20, 4)
	expect(t, "Arm advances", s.Arm(4, 24), api.OK)
	expect(t, "clock", s.Advance(23), api.ErrInvalid)
	counts(t, s, 4, 0)
}
