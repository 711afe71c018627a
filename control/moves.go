package control

import (
	"slices"

	"platformfw/api"
	"platformfw/device"
)

// Stop stops the driver of a device.
func (p *Power) Stop(device int, now uint64) {
	if p.has(device) {
		m := &p.devices[device]
		if !m.stopped && p.tree.Accessible(device, now) {
			p.perform(m, eventStop, now)
		}
		m.stopped = true
	}
	p.refresh(now)
}

// Start lets the driver of a device run again.
func (p *Power) Start(device int, now uint64) {
	if p.has(device) {
		m := &p.devices[device]
		m.stopped = false
		if p.tree.Accessible(device, now) {
			p.perform(m, eventStart, now)
		}
	}
	p.refresh(now)
}

// Move changes the bases of the devices.
func (p *Power) Move(bases []uint64, now uint64) api.Errno {
	defer p.refresh(now)
	if !validBases(bases, len(p.devices)) {
		return api.ErrInvalid
	}
	contents := make([]string, len(p.devices))
	for i := range p.devices {
		m := p.devices[i]
		if m.base != bases[i] {
			contents[i] = p.peek(m.base)
			p.bus.Unmap(api.SpaceMemory, m.registers())
		}
	}
	for i := range p.devices {
		m := &p.devices[i]
		if m.base == bases[i] {
			continue
		}
		m.base = bases[i]
		if e := p.bus.Map(api.SpaceMemory, m.registers(), m.owner); e != api.OK {
			return e
		}
		for k := range len(contents[i]) {
			p.bus.Poke(api.SpaceMemory, m.base+uint64(k), contents[i][k])
		}
	}
	return api.OK
}

// peek returns the contents of the registers at a base.
func (p *Power) peek(base uint64) string {
	l := make([]byte, api.RegisterBytes)
	for k := range l {
		l[k], _ = p.bus.Peek(api.SpaceMemory, base+uint64(k))
	}
	return string(l)
}

// Phase performs an operation of a sleep transition.
func (p *Power) Phase(op api.SleepOp, system int, now uint64) api.Errno {
	defer p.refresh(now)
	if !p.has(op.Device) {
		return api.ErrNotFound
	}
	if op.Phase < api.PhasePrepare || op.Phase > api.PhaseComplete || system < api.S1 || system > api.S4 {
		return api.ErrInvalid
	}
	m := &p.devices[op.Device]
	switch op.Phase {
	case api.PhaseSuspend:
		return p.suspend(op.Device, now)
	case api.PhaseNoIRQ:
		target, e := device.Target(m.power, system, m.wake)
		if e != api.OK {
			return e
		}
		_, e = p.tree.Set(op.Device, max(target, p.tree.State(op.Device)), now)
		return e
	case api.PhaseResumeNoIRQ:
		_, e := p.tree.Set(op.Device, m.remembered, now)
		return e
	case api.PhaseResume:
		if m.remembered == api.D0 {
			m.queue = slices.Insert(m.queue, 0, eventResume)
		}
	}
	return api.OK
}

// suspend remembers the state of a device and tells its driver.
func (p *Power) suspend(device int, now uint64) api.Errno {
	m := &p.devices[device]
	accessible := p.tree.Accessible(device, now)
	state := p.tree.State(device)
	if len(m.queue) > 0 || state == api.D0 && !accessible {
		return api.ErrBusy
	}
	m.remembered = state
	if accessible && !m.stopped {
		p.perform(m, eventSuspend, now)
	}
	return api.OK
}
