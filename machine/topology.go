package machine

import (
	"platformfw/allocate"
	"platformfw/api"
	"platformfw/boot"
	"platformfw/enumerate"
	"platformfw/flash"
	"platformfw/hotplug"
	"platformfw/measure"
	"platformfw/varstore"
)

// openBoot opens the store and begins a boot.
func openBoot(f *flash.Flash) (*boot.Manager, api.Errno) {
	store, e := varstore.Open(f)
	if e != api.OK {
		return nil, e
	}
	manager := boot.New(store, measure.New())
	return manager, manager.Begin()
}

// assignBoard returns the assignments of the functions of the board.
func (m *Machine) assignBoard() []api.Assignment {
	a, _, _ := allocate.Assign(m.board.Functions, m.board.Host)
	return a
}

// program notes the configuration accesses for the current topology in the outcome.
func (m *Machine) program(s *session) {
	numbers, _ := enumerate.Buses(s.functions, m.board.Host.Buses)
	m.out.Config = append(m.out.Config, enumerate.Writes(s.functions, numbers)...)
	m.out.Config = append(m.out.Config, allocate.Writes(s.functions, s.assigned)...)
}

// bayOf returns the bay of a hot-plug port.
func (m *Machine) bayOf(port int) (*bay, bool) {
	for i := range m.bays {
		if m.bays[i].port == port {
			return &m.bays[i], true
		}
	}
	return nil, false
}

// insert inserts a card into the slot of a port.
func (m *Machine) insert(port, card int) api.Errno {
	b, ok := m.bayOf(port)
	if !ok {
		return api.ErrNotFound
	}
	if card < 0 || card >= len(m.board.Cards) {
		return api.ErrInvalid
	}
	_, e := b.slot.Handle(api.HotInsert, m.clock)
	if e == api.OK {
		b.card = card
	}
	return e
}

// slotEvent passes an event to the slot of a port.
func (m *Machine) slotEvent(port, event int) api.Errno {
	b, ok := m.bayOf(port)
	if !ok {
		return api.ErrNotFound
	}
	switch event {
	case api.HotInsert:
		return api.ErrInvalid
	case api.HotPowerOn, api.HotEject, api.HotStopped:
		if m.mode() != api.ModeRunning {
			return api.ErrState
		}
	}
	actions, e := b.slot.Handle(event, m.clock)
	if e != api.OK {
		return e
	}
	if event == api.HotRemove {
		b.card = noCard
	}
	for _, action := range actions {
		if action == api.ActForget {
			m.forget(port)
		}
	}
	return api.OK
}

// forget removes the functions below a port.
func (m *Machine) forget(port int) {
	if m.session == nil {
		return
	}
	functions, assigned, _, e := hotplug.Remove(m.functions, m.assigned, port)
	if e == api.OK {
		m.functions, m.assigned = functions, assigned
	}
}

// scan adds the functions of the card of a bay.
func (m *Machine) scan(b bay) {
	before := len(m.functions)
	functions, e := hotplug.Add(m.functions, b.port, m.board.Cards[b.card].Functions)
	if e == api.OK {
		_, e = enumerate.Buses(functions, m.board.Host.Buses)
	}
	var assigned []api.Assignment
	var moves []api.Move
	if e == api.OK {
		assigned, moves, _, e = hotplug.Plan(functions, m.board.Host, m.assigned, before)
	}
	if e != api.OK {
		b.slot.Handle(api.HotFault, m.clock)
		return
	}
	m.functions, m.assigned = functions, assigned
	m.out.Moves = append(m.out.Moves, moves...)
	m.program(m.session)
	m.moveDevices(moves)
}

// moveDevices stops the drivers, moves the registers, and starts the drivers again.
func (m *Machine) moveDevices(moves []api.Move) {
	for _, x := range moves {
		if d := m.deviceOf(x.Function); x.Kind == api.MoveStop && d >= 0 {
			m.power.Stop(d, m.clock)
		}
	}
	m.power.Move(basesOf(m.board.Devices, m.assigned), m.clock)
	for _, x := range moves {
		if d := m.deviceOf(x.Function); x.Kind == api.MoveStart && d >= 0 {
			m.power.Start(d, m.clock)
		}
	}
}

// deviceOf returns the device of a function, or -1.
func (m *Machine) deviceOf(function int) int {
	for i, d := range m.board.Devices {
		if d.Function == function {
			return i
		}
	}
	return -1
}
