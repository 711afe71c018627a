package control

import (
	"platformfw/api"
	"platformfw/hibernate"
	"platformfw/suspend"
	"platformfw/wakeup"
)

// Sleep controls the sleep transitions. Early is the error with which the system was woken early in the current transition.
type Sleep struct {
	power    *Power
	sources  *wakeup.Sources
	freezer  *hibernate.Freezer
	sequence *suspend.Sequence
	mode     int
	system   int
	last     api.Errno
	early    api.Errno
}

// NewSleep returns an object in ModeRunning.
func NewSleep(p *Power, w *wakeup.Sources, f *hibernate.Freezer) *Sleep {
	return &Sleep{power: p, sources: w, freezer: f, mode: api.ModeRunning}
}

// Mode returns the mode.
func (s *Sleep) Mode() int { return s.mode }

// System returns the system state of the current or last transition.
func (s *Sleep) System() int { return s.system }

// Last returns the result of the last finished transition.
func (s *Sleep) Last() api.Errno { return s.last }

// Begin begins a transition.
func (s *Sleep) Begin(system int, now, timeout uint64) api.Errno {
	if s.mode != api.ModeRunning {
		return api.ErrState
	}
	if system < api.S1 || system > api.S4 || now > api.MaxTime || timeout > api.MaxTime-now {
		return api.ErrInvalid
	}
	events, _ := s.sources.Counts()
	if s.sources.Arm(events, now) != api.OK {
		return api.ErrBusy
	}
	s.system = system
	s.early = api.OK
	if e := s.freezer.Freeze(now, now+timeout); e != api.OK {
		s.finish(e, now)
		return api.OK
	}
	s.mode = api.ModeFreezing
	s.awaitFrozen(now)
	return api.OK
}

// awaitFrozen begins the sequence if the freezer is frozen, and finishes the transition if it has given up.
func (s *Sleep) awaitFrozen(now uint64) {
	frozen, e := s.freezer.Advance(now)
	if e != api.OK {
		s.finish(e, now)
		return
	}
	if !frozen {
		return
	}
	if s.sequence, e = suspend.New(s.power.Order()); e != api.OK {
		s.finish(e, now)
		return
	}
	s.mode = api.ModeChanging
	s.examine(now)
}

// finish finishes the transition.
func (s *Sleep) finish(result api.Errno, now uint64) {
	s.freezer.Thaw(now)
	s.sources.Disarm()
	s.last = result
	s.mode = api.ModeRunning
}

// wake starts waking the system.
func (s *Sleep) wake() {
	s.sequence.Wake()
	s.mode = api.ModeChanging
}

// examine draws the conclusions from the state of the sequence.
func (s *Sleep) examine(now uint64) {
	if s.sequence.Asleep() && s.mode == api.ModeChanging {
		if s.sources.MustAbort() {
			s.early = api.ErrAborted
			s.wake()
		} else {
			s.mode = api.ModeAsleep
		}
	}
	if result, finished := s.sequence.Result(); finished {
		if result == api.OK {
			result = s.early
		}
		s.finish(result, now)
	}
}

// Continue performs the next operation of the sequence.
func (s *Sleep) Continue(now uint64) api.Errno {
	if s.mode != api.ModeChanging {
		return api.ErrState
	}
	op, _ := s.sequence.Next()
	if op.Phase <= api.PhaseNoIRQ && s.sources.MustAbort() {
		s.sequence.Abort()
	} else {
		s.sequence.Complete(s.power.Phase(op, s.system, now))
	}
	s.examine(now)
	return api.OK
}

// Settle reacts to the passing of time and to wake events.
func (s *Sleep) Settle(now uint64) {
	s.sources.Advance(now)
	switch s.mode {
	case api.ModeFreezing:
		if s.sources.MustAbort() {
			s.finish(api.ErrAborted, now)
		} else {
			s.awaitFrozen(now)
		}
	case api.ModeAsleep:
		if s.sources.MustAbort() {
			s.wake()
			s.examine(now)
		}
	}
}

// WakeEarly wakes the system with an error.
func (s *Sleep) WakeEarly(e api.Errno, now uint64) api.Errno {
	if s.mode != api.ModeAsleep {
		return api.ErrState
	}
	s.early = e
	s.wake()
	s.examine(now)
	return api.OK
}
