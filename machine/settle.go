package machine

import (
	"platformfw/api"
	"platformfw/hibernate"
)

// hibernate saves the image and switches the power off, if the machine is asleep in S4.
func (m *Machine) hibernate() {
	if m.mode() != api.ModeAsleep || m.sleep.System() != api.S4 {
		return
	}
	switch e := hibernate.Save(m.disk, m.image()); e {
	case api.OK:
		m.lose(nil)
	case api.ErrDown: // the power is found to be lost after the event
	default:
		m.sleep.WakeEarly(e, m.clock)
	}
}

// settle lets the machine react to an event and to the passing of time.
func (m *Machine) settle() {
	if m.session == nil {
		m.sources.Advance(m.clock)
		return
	}
	m.sleep.Settle(m.clock)
	m.hibernate()
	m.checkPower()
	if m.session == nil {
		return
	}
	if m.mode() == api.ModeRunning {
		m.power.Advance(m.clock)
		for _, b := range m.bays {
			if len(b.slot.Advance(m.clock)) > 0 {
				m.scan(b)
			}
		}
		m.power.Deliver(m.clock)
		m.handleEvent()
		m.collectThreads()
	}
	m.out.Notes = m.methods.TakeNotifications()
}

// handleEvent starts a thread for the next general-purpose event.
func (m *Machine) handleEvent() {
	event, ok := m.events.Next()
	if !ok {
		return
	}
	name, e := m.events.Begin(event)
	if e != api.OK {
		return
	}
	thread, e := m.methods.Start("\\_GPE."+name, nil)
	if e != api.OK {
		m.events.Complete(event)
		return
	}
	m.handlers[thread] = event
}

// collectThreads removes the threads that have ended.
func (m *Machine) collectThreads() {
	for _, thread := range m.methods.Threads() {
		if m.methods.Collect(thread) != api.OK {
			continue
		}
		if event, ok := m.handlers[thread]; ok {
			m.events.Complete(event)
			delete(m.handlers, thread)
		}
	}
}
