// Package hotplug is layer 23: slots, ejection and rebalancing.
package hotplug

import "platformfw/api"

// Slot is a hot-plug slot. While it is powering, power becomes good at the time good.
type Slot struct {
	state int
	delay uint64
	good  uint64
}

// NewSlot returns a slot in which a card is present or not.
func NewSlot(present bool, delay uint64) (*Slot, api.Errno) {
	if delay > api.MaxDelay {
		return nil, api.ErrInvalid
	}
	s := &Slot{state: api.SlotEmpty, delay: delay}
	if present {
		s.state = api.SlotOff
	}
	return s, api.OK
}

// State returns the state of a slot.
func (s *Slot) State() int { return s.state }

// Handle processes an event and returns the actions to be performed.
func (s *Slot) Handle(event int, now uint64) ([]int, api.Errno) {
	next, actions := s.transition(event)
	if event < api.HotInsert || event > api.HotFault {
		return nil, api.ErrInvalid
	}
	if next == 0 {
		return nil, api.ErrState
	}
	if next == api.SlotPowering {
		s.good = now + min(s.delay, 1<<64-1-now)
	}
	s.state = next
	return actions, api.OK
}

// transition returns the next state, or 0 if the event is not permitted, and the actions.
func (s *Slot) transition(event int) (int, []int) {
	off := []int{api.ActPowerOff}
	gone := []int{api.ActForget, api.ActPowerOff}
	switch event {
	case api.HotInsert:
		if s.state == api.SlotEmpty {
			return api.SlotOff, nil
		}
	case api.HotPowerOn:
		if s.state == api.SlotOff || s.state == api.SlotFailed {
			return api.SlotPowering, []int{api.ActPowerOn}
		}
	case api.HotEject:
		switch s.state {
		case api.SlotOn:
			return api.SlotStopping, []int{api.ActStop}
		case api.SlotPowering:
			return api.SlotOff, off
		}
	case api.HotStopped:
		if s.state == api.SlotStopping {
			return api.SlotOff, gone
		}
	case api.HotRemove:
		switch s.state {
		case api.SlotOff, api.SlotFailed:
			return api.SlotEmpty, nil
		case api.SlotPowering:
			return api.SlotEmpty, off
		case api.SlotOn, api.SlotStopping:
			return api.SlotEmpty, gone
		}
	case api.HotFault:
		switch s.state {
		case api.SlotPowering:
			return api.SlotFailed, off
		case api.SlotOn, api.SlotStopping:
			return api.SlotFailed, gone
		}
	}
	return 0, nil
}

// Advance notices that power has become good.
func (s *Slot) Advance(now uint64) []int {
	if s.state != api.SlotPowering || now < s.good {
		return nil
	}
	s.state = api.SlotOn
	return []int{api.ActScan}
}
