package machine

import "platformfw/api"

// Step processes an event.
func (m *Machine) Step(e api.Event) api.Outcome {
	before := m.clock
	m.out = &api.Outcome{}
	if m.out.Err = m.permitted(e.Kind); m.out.Err == api.OK {
		m.out.Err = m.handle(e)
	}
	m.checkPower()
	m.settle()
	m.collectTrace()
	for range m.clock/m.board.Interval - before/m.board.Interval {
		m.thermal.Run(m.mode())
	}
	out := *m.out
	m.out = &api.Outcome{}
	return out
}

// checkPower loses the power if the block device or the flash has lost it.
func (m *Machine) checkPower() {
	if m.session == nil {
		return
	}
	_, disk := m.disk.Read(0)
	_, flash := m.flash.Read(0, 0)
	if disk == api.OK && flash == api.OK {
		return
	}
	m.lose(nil)
	m.out.Err = api.ErrDown
	m.out.Value = 0
}

// permitted checks whether a kind of event is permitted in the current mode.
func (m *Machine) permitted(kind int) api.Errno {
	if kind < api.EvTick || kind > api.EvCut {
		return api.ErrInvalid
	}
	switch kind {
	case api.EvTick, api.EvPowerOn, api.EvPowerLoss, api.EvInsert, api.EvSlot, api.EvWake, api.EvSource, api.EvAlarm, api.EvLoad, api.EvCut:
		return api.OK
	}
	if m.session == nil {
		return api.ErrDown
	}
	switch kind {
	case api.EvWrite, api.EvRead, api.EvSection, api.EvUse, api.EvRelease, api.EvRequest, api.EvSleep, api.EvCall, api.EvThread:
		if m.mode() != api.ModeRunning {
			return api.ErrState
		}
	}
	return api.OK
}

// handle processes a permitted event.
func (m *Machine) handle(e api.Event) api.Errno {
	switch e.Kind {
	case api.EvTick:
		if e.N > api.MaxAdvance {
			return api.ErrInvalid
		}
		m.clock = min(m.clock+e.N, api.MaxTime)
	case api.EvPowerOn:
		if m.session != nil {
			return api.ErrState
		}
		return m.powerOn()
	case api.EvPowerLoss:
		if m.session == nil {
			return api.ErrState
		}
		m.lose(e.Keep)
	case api.EvCut:
		return m.cut(e)
	case api.EvLoad:
		return m.thermal.SetLoad(e.A, e.B)
	case api.EvInsert:
		return m.insert(e.A, e.B)
	case api.EvSlot:
		return m.slotEvent(e.A, e.B)
	case api.EvWake, api.EvSource, api.EvAlarm:
		return m.wakeEvent(e)
	case api.EvWrite, api.EvRead, api.EvSection:
		return m.process(e)
	case api.EvUse, api.EvRelease, api.EvRequest, api.EvWakeEnable, api.EvPoke, api.EvFault:
		return m.deviceEvent(e)
	case api.EvSleep, api.EvContinue:
		return m.sleepEvent(e)
	default:
		return m.methodEvent(e)
	}
	return api.OK
}

func (m *Machine) cut(e api.Event) api.Errno {
	if e.A < 0 || e.A > 1 || e.N > api.MaxField {
		return api.ErrInvalid
	}
	if e.A == 0 {
		m.disk.CutAfter(int(e.N), e.Keep)
	} else {
		m.flash.CutAfter(int(e.N), uint64(e.B))
	}
	return api.OK
}

func (m *Machine) wakeEvent(e api.Event) api.Errno {
	switch {
	case e.Kind == api.EvWake:
		return m.sources.Pulse(e.A, m.clock, e.N)
	case e.Kind == api.EvAlarm:
		if e.N > api.MaxTime {
			return api.ErrInvalid
		}
		return m.sources.SetAlarm(m.clock, m.clock+e.N)
	case e.Flag:
		return m.sources.Activate(e.A, m.clock)
	}
	return m.sources.Deactivate(e.A, m.clock)
}

// process processes an event of a process.
func (m *Machine) process(e api.Event) api.Errno {
	if e.Kind == api.EvSection {
		if e.N > api.MaxTime {
			return api.ErrInvalid
		}
		return m.freezer.Enter(e.A, m.clock+e.N, m.clock)
	}
	if e.A < 0 || e.A >= m.board.Processes || e.B < 0 || e.B >= len(m.memory) {
		return api.ErrInvalid
	}
	if e.Kind == api.EvWrite {
		m.memory[e.B] = byte(e.N)
	} else {
		m.out.Value = uint64(m.memory[e.B])
	}
	return api.OK
}

// deviceEvent processes an event of a device.
func (m *Machine) deviceEvent(e api.Event) api.Errno {
	switch e.Kind {
	case api.EvUse:
		return m.power.Use(e.A, m.clock)
	case api.EvRelease:
		return m.power.Release(e.A, m.clock)
	case api.EvRequest:
		return m.power.Request(e.A, e.S)
	case api.EvWakeEnable:
		return m.power.EnableWake(e.A, e.Flag)
	}
	if e.A < 0 || e.A >= len(m.board.Devices) {
		return api.ErrNotFound
	}
	base := m.power.View(e.A, m.clock).Base
	if e.Kind == api.EvPoke {
		if e.B < 0 || e.B >= api.RegisterBytes {
			return api.ErrInvalid
		}
		m.bus.Poke(api.SpaceMemory, base+uint64(e.B), byte(e.N))
		return api.OK
	}
	if e.N < 1 || e.N > api.MaxFaults {
		return api.ErrInvalid
	}
	return m.bus.PlanFault(api.SpaceMemory, api.Range{Base: base, Len: api.RegisterBytes}, int(e.N))
}

// sleepEvent processes an event of a sleep transition.
func (m *Machine) sleepEvent(e api.Event) api.Errno {
	var result api.Errno
	if e.Kind == api.EvSleep {
		result = m.sleep.Begin(e.A, m.clock, m.board.FreezeTimeout)
	} else {
		result = m.sleep.Continue(m.clock)
	}
	m.hibernate()
	return result
}

// methodEvent processes an event of the methods of the tables.
func (m *Machine) methodEvent(e api.Event) api.Errno {
	switch e.Kind {
	case api.EvCall:
		thread, result := m.methods.Start(e.S, nil)
		m.out.Value = uint64(thread)
		return result
	case api.EvThread:
		m.collectTrace()
		status := m.methods.Step(e.A, m.clock)
		if status == 0 {
			return api.ErrNotFound
		}
		m.out.Methods = m.bus.TakeTrace()
		m.out.Value = uint64(status)
		return api.OK
	}
	return m.events.Set(e.A, e.Flag)
}
