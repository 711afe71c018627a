package machine

import (
	"slices"

	"platformfw/allocate"
	"platformfw/api"
	"platformfw/boot"
	"platformfw/control"
	"platformfw/enumerate"
	"platformfw/flash"
	"platformfw/iospace"
	"platformfw/measure"
	"platformfw/namespace"
	"platformfw/sdt"
	"platformfw/tablecode"
	"platformfw/varstore"
)

const (
	mostFunctions = 24
	mostPages     = 64
	lowestMem     = 1 << 20
	smallestBar   = 8
	largestBar    = 12
)

// Valid reports whether a board is valid.
func Valid(b api.Board) bool {
	if _, ok := loadTables(b.Tables); !ok || !validTopology(b) {
		return false
	}
	assigned, _, e := allocate.Assign(b.Functions, b.Host)
	if e != api.OK || !validDevices(b, assigned) {
		return false
	}
	if _, e := newThermal(b); e != api.OK {
		return false
	}
	if !validNumbers(b) {
		return false
	}
	_, ok := newFlash(b)
	return ok
}

// loadTables loads a set of tables into a new namespace.
func loadTables(set string) (*namespace.Space, bool) {
	space := namespace.New()
	if set == "" {
		return space, true
	}
	tables, e := sdt.DecodeSet(set)
	if e != api.OK {
		return nil, false
	}
	for _, t := range tables {
		program, _, e := tablecode.Disassemble(t.Body)
		if e != api.OK {
			return nil, false
		}
		if _, e := space.Load(program); e != api.OK {
			return nil, false
		}
	}
	return space, true
}

func validTopology(b api.Board) bool {
	if len(b.Functions) > mostFunctions || len(b.Cards) > api.MaxCards {
		return false
	}
	if _, e := enumerate.Buses(b.Functions, b.Host.Buses); e != api.OK {
		return false
	}
	for _, f := range b.Functions {
		if f.Parent >= 0 && b.Functions[f.Parent].Hotplug {
			return false
		}
	}
	for _, r := range b.Host.Mem {
		if r.Base < lowestMem {
			return false
		}
	}
	return true
}

func validDevices(b api.Board, assigned []api.Assignment) bool {
	for _, d := range b.Devices {
		if d.Function < 0 || d.Function >= len(b.Functions) {
			return false
		}
		f := b.Functions[d.Function]
		if f.Bridge || len(f.Bars) == 0 || f.Bars[0].Kind != api.BarMem32 || f.Bars[0].Size < smallestBar || f.Bars[0].Size > largestBar {
			return false
		}
	}
	_, e := control.NewPower(b.Devices, b.Rails, basesOf(b.Devices, assigned), iospace.New())
	return e == api.OK
}

// basesOf returns the address of the registers of each device.
func basesOf(devices []api.BoardDevice, assigned []api.Assignment) []uint64 {
	bases := make([]uint64, len(devices))
	for i, d := range devices {
		for _, a := range assigned {
			if a.Need.Function == d.Function && a.Need.Index == 0 {
				bases[i] = a.Base
			}
		}
	}
	return bases
}

func newThermal(b api.Board) (*control.Thermal, api.Errno) {
	return control.NewThermal(b.Domains, b.HeatLinks, b.Ambient, b.Limit, b.Budget)
}

func validNumbers(b api.Board) bool {
	return b.Interval >= 1 && b.Interval <= api.MaxAdvance && b.Pages >= 1 && b.Pages <= mostPages &&
		b.Processes >= 0 && b.Processes <= api.MaxProcesses && b.FreezeTimeout <= api.MaxAdvance &&
		b.Sources >= 0 && b.Sources <= api.MaxSources && b.Sectors >= 1 && b.Sectors <= api.MaxSectors &&
		len(b.Images) <= api.MaxEntries
}

// newFlash returns a formatted flash that contains the boot entries and their order.
func newFlash(b api.Board) (*flash.Flash, bool) {
	f, e := flash.New(b.Flash)
	if e != api.OK || varstore.Format(f) != api.OK {
		return nil, false
	}
	store, e := varstore.Open(f)
	if e != api.OK {
		return nil, false
	}
	manager := boot.New(store, measure.New())
	for _, entry := range b.Entries {
		if manager.SetEntry(entry) != api.OK {
			return nil, false
		}
	}
	return f, manager.SetOrder(b.Order) == api.OK
}

func copyFunctions(l []api.Function) []api.Function {
	out := slices.Clone(l)
	for i := range out {
		out[i].Bars = slices.Clone(out[i].Bars)
	}
	return out
}

// copyBoard returns the parts of a board that a machine needs after it was created, sharing no memory with it.
func copyBoard(b api.Board) api.Board {
	c := b
	c.Functions = copyFunctions(b.Functions)
	c.Host = api.Host{Buses: b.Host.Buses, IO: slices.Clone(b.Host.IO), Mem: slices.Clone(b.Host.Mem), High: slices.Clone(b.Host.High),
		FixedIO: slices.Clone(b.Host.FixedIO), Fixed: slices.Clone(b.Host.Fixed), Links: slices.Clone(b.Host.Links), Routes: slices.Clone(b.Host.Routes)}
	c.Cards = slices.Clone(b.Cards)
	for i := range c.Cards {
		c.Cards[i].Functions = copyFunctions(c.Cards[i].Functions)
	}
	c.Rails = slices.Clone(b.Rails)
	c.Devices = slices.Clone(b.Devices)
	for i := range c.Devices {
		d := &c.Devices[i]
		d.Idle.Suppliers = slices.Clone(d.Idle.Suppliers)
		for state, l := range d.Power.Rails {
			d.Power.Rails[state] = slices.Clone(l)
		}
	}
	c.Domains, c.HeatLinks, c.Entries, c.Order = nil, nil, nil, nil
	c.Images = slices.Clone(b.Images)
	return c
}
