package control

import (
	"slices"

	"platformfw/api"
	"platformfw/depgraph"
	"platformfw/device"
	"platformfw/driver"
	"platformfw/iospace"
	"platformfw/runtimepm"
)

const (
	mostDevices   = 16
	mostUses      = 255
	registerWidth = 4
	failedRead    = 1<<32 - 1
)

// Events that are performed on drivers.
const (
	eventStop    = "stop"
	eventStart   = "start"
	eventSuspend = "suspend"
	eventResume  = "resume"
)

// managed is a device with its driver. Remembered is the power state to which waking returns it.
type managed struct {
	owner      int
	base       uint64
	power      api.PowerDevice
	driver     *driver.Instance
	stopped    bool
	queue      []string
	wake       bool
	remembered int
}

// Power is the power management of the devices.
type Power struct {
	devices []managed
	order   []int
	tree    *device.Tree
	manager *runtimepm.Manager
	bus     *iospace.Bus
}

// NewPower maps the registers of the devices and returns an object in which all devices are in D3Cold.
func NewPower(devices []api.BoardDevice, rails []api.Rail, bases []uint64, b *iospace.Bus) (*Power, api.Errno) {
	if len(devices) > mostDevices || !validBases(bases, len(devices)) {
		return nil, api.ErrInvalid
	}
	p := &Power{bus: b}
	var powers []api.PowerDevice
	var idles []api.IdleDevice
	for i, d := range devices {
		m := managed{owner: d.Function, base: bases[i], power: d.Power, remembered: api.D3Cold}
		if !p.validDevice(d) || !m.load(d.Driver) {
			return nil, api.ErrInvalid
		}
		m.power.Rails = [4][]int{}
		p.devices = append(p.devices, m)
		powers = append(powers, d.Power)
		idles = append(idles, d.Idle)
	}
	var e1, e2, e3 api.Errno
	p.tree, e1 = device.New(powers, rails)
	p.manager, e2 = runtimepm.New(idles)
	p.order, e3 = depgraph.Order(len(devices), linksOf(idles))
	if e1 != api.OK || e2 != api.OK || e3 != api.OK {
		return nil, api.ErrInvalid
	}
	for _, m := range p.devices {
		if e := b.Map(api.SpaceMemory, m.registers(), m.owner); e != api.OK {
			return nil, e
		}
		b.Enable(m.owner, false)
	}
	return p, api.OK
}

func validBases(bases []uint64, count int) bool {
	for _, base := range bases {
		if base%api.RegisterBytes != 0 {
			return false
		}
	}
	return len(bases) == count
}

// validDevice tests what the layers below do not test of a device; earlier devices must have other functions.
func (p *Power) validDevice(d api.BoardDevice) bool {
	for _, other := range p.devices {
		if other.owner == d.Function {
			return false
		}
	}
	for state, l := range d.Power.Rails {
		if state != api.D0 && len(l) > 0 {
			return false
		}
	}
	return d.Function >= 0 && d.Function < api.SystemOwner && d.Power.Parent == d.Idle.Parent
}

// load creates the driver of a device from its text.
func (m *managed) load(text string) bool {
	d, e := driver.Parse(text)
	if e != api.OK {
		return false
	}
	for _, t := range d.Transitions {
		if t.Guard.Used && !isRegister(t.Guard.Reg) {
			return false
		}
		for _, op := range t.Ops {
			if !isRegister(op.Reg) {
				return false
			}
		}
	}
	m.driver, e = driver.New(d)
	return e == api.OK
}

func isRegister(reg uint64) bool { return reg < api.RegisterBytes && reg%registerWidth == 0 }

// linksOf returns the links of devices to their suppliers.
func linksOf(devices []api.IdleDevice) []api.Link {
	var links []api.Link
	for i, d := range devices {
		if d.Parent != -1 {
			links = append(links, api.Link{Consumer: i, Supplier: d.Parent})
		}
		for _, s := range d.Suppliers {
			links = append(links, api.Link{Consumer: i, Supplier: s})
		}
	}
	return links
}

func (m managed) registers() api.Range { return api.Range{Base: m.base, Len: api.RegisterBytes} }

func (p *Power) has(device int) bool { return device >= 0 && device < len(p.devices) }

// Order returns the devices, suppliers before consumers.
func (p *Power) Order() []int { return slices.Clone(p.order) }

// refresh enables exactly the owners whose devices are accessible.
func (p *Power) refresh(now uint64) {
	for i, m := range p.devices {
		p.bus.Enable(m.owner, p.tree.Accessible(i, now))
	}
}

// carryOut carries out operations of the run-time power management.
func (p *Power) carryOut(ops []api.PowerOp, now uint64) {
	for _, op := range ops {
		state := api.D3Hot
		if op.Resume {
			state = api.D0
		}
		p.tree.Set(op.Device, state, now)
	}
}

// access performs a register operation of a driver, and returns the value that was read.
func (p *Power) access(m *managed, op api.RegOp, now uint64) uint64 {
	p.refresh(now)
	v, e := p.bus.Access(api.Access{Space: api.SpaceMemory, Addr: m.base + op.Reg, Width: registerWidth, Write: op.Write, Value: op.Value})
	if e != api.OK {
		return failedRead
	}
	return v
}

// perform performs an event on the driver of a device.
func (p *Power) perform(m *managed, event string, now uint64) {
	action, e := m.driver.Handle(event)
	for e == api.OK {
		last := uint64(0)
		for _, op := range action.Ops {
			last = p.access(m, op, now)
		}
		if !action.Wait {
			return
		}
		action, e = m.driver.Reply(last)
	}
}

// Use adds a use to a device.
func (p *Power) Use(device int, now uint64) api.Errno {
	defer p.refresh(now)
	if !p.has(device) {
		return api.ErrNotFound
	}
	if p.manager.Usage(device) >= mostUses {
		return api.ErrFull
	}
	ops, e := p.manager.Get(device, now)
	p.carryOut(ops, now)
	return e
}

// Release removes a use from a device.
func (p *Power) Release(device int, now uint64) api.Errno {
	defer p.refresh(now)
	if !p.has(device) {
		return api.ErrNotFound
	}
	ops, e := p.manager.Put(device, now)
	p.carryOut(ops, now)
	return e
}

// Request appends an event to the queue of a device.
func (p *Power) Request(device int, event string) api.Errno {
	if !p.has(device) {
		return api.ErrNotFound
	}
	if p.manager.Usage(device) == 0 {
		return api.ErrState
	}
	m := &p.devices[device]
	if len(m.queue) >= api.MaxRequests {
		return api.ErrFull
	}
	m.queue = append(m.queue, event)
	return api.OK
}

// EnableWake sets the wake flag of a device.
func (p *Power) EnableWake(device int, on bool) api.Errno {
	if !p.has(device) {
		return api.ErrNotFound
	}
	p.devices[device].wake = on
	return api.OK
}

// Advance suspends the devices that were idle long enough.
func (p *Power) Advance(now uint64) {
	ops, _ := p.manager.Advance(now)
	p.carryOut(ops, now)
	p.refresh(now)
}

// Deliver performs the queued events of the devices that are ready for them.
func (p *Power) Deliver(now uint64) {
	for i := range p.devices {
		m := &p.devices[i]
		for len(m.queue) > 0 && !m.stopped && p.tree.Accessible(i, now) {
			event := m.queue[0]
			m.queue = m.queue[1:]
			p.perform(m, event, now)
		}
	}
	p.refresh(now)
}

// View describes a device.
func (p *Power) View(device int, now uint64) api.DeviceView {
	if !p.has(device) {
		return api.DeviceView{}
	}
	m := p.devices[device]
	return api.DeviceView{State: p.tree.State(device), Accessible: p.tree.Accessible(device, now), Usage: p.manager.Usage(device), Driver: m.driver.State(), Queued: len(m.queue), Base: m.base}
}
