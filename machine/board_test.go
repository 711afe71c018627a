package machine

import (
	"testing"

	"platformfw/api"
	"platformfw/measure"
	"platformfw/sdt"
	"platformfw/syntax"
	"platformfw/tablecode"
)

const tableText = `
OperationRegion (MEM, 0, 16, 16) Field (MEM, 1, 0) {Unit (FLD, 8)}
Device (DEV) {}
Method (RUN, 0, 0, 0) {Store (Add (FLD, 1), FLD) Return (FLD)}
Method (ARG, 1, 0, 0) {}
Method (LOOP, 0, 0, 0) {While (1) {}}
Scope (_GPE) {Method (_E05, 0, 0, 0) {Notify (DEV, 7)} Method (_E06, 1, 0, 0) {}}`

const driverText = `driver d
state a
on start -> a: write 0 1
on go -> a: write 4 2
on look if 8 & 1 = 1 -> b: read 12
on suspend -> a: write 16 3
on resume -> a: write 20 4
on stop -> a: write 24 5
state b`

func compiled(t *testing.T, src string) string {
	t.Helper()
	p, at, e := syntax.Parse(src)
	if e != api.OK {
		t.Fatal(at, e)
	}
	code, e := tablecode.Compile(p)
	if e != api.OK {
		t.Fatal(e)
	}
	set, e := sdt.EncodeSet([]api.Table{{Signature: "DSDT", Revision: 1, OEM: "T", Body: code}})
	if e != api.OK {
		t.Fatal(e)
	}
	return set
}

func entry(id int, image string, attempts int) api.BootEntry {
	return api.BootEntry{ID: id, Digest: measure.Sum(image), Active: true, Attempts: attempts}
}

// smallBoard is a board without tables, functions and domains.
func smallBoard() api.Board {
	return api.Board{Host: api.Host{Buses: 1}, Interval: 10, Pages: 2, Processes: 1, FreezeTimeout: 20, Sources: 1, Sectors: 32, Flash: api.FlashShape{Blocks: 3, Pages: 16, Endurance: 1000}, Entries: []api.BootEntry{entry(0, "system", 2)}, Order: []int{0}, Images: []string{"system"}}
}

func bar(kind, size int) api.Bar { return api.Bar{Kind: kind, Size: size} }

func fn(parent, slot int, bars ...api.Bar) api.Function {
	return api.Function{Parent: parent, Slot: slot, Vendor: 1, Bars: bars}
}

func boardDevice(function, parent int, rails ...int) api.BoardDevice {
	d := api.BoardDevice{Function: function, Power: api.PowerDevice{Parent: parent, Deepest: [6]int{0, 1, 2, 3, 4, 4}, WakeSystem: 3, WakeDevice: 2}, Idle: api.IdleDevice{Parent: parent, Delay: 5}, Driver: driverText}
	d.Power.Rails[0] = rails
	return d
}

// fullBoard has two devices, two hot-plug ports, three cards, tables and a domain.
func fullBoard(t *testing.T) api.Board {
	t.Helper()
	b := smallBoard()
	b.Tables = compiled(t, tableText)
	port := fn(-1, 2)
	port.Bridge, port.Hotplug = true, true
	other := port
	other.Slot = 3
	b.Functions = []api.Function{fn(-1, 0, bar(2, 12)), fn(-1, 1, bar(2, 8)), port, other}
	b.Host = api.Host{Buses: 16, IO: []api.Range{{Base: 0x1000, Len: 0xF000}}, Mem: []api.Range{{Base: 0x80000000, Len: 0x8000000}}}
	b.Cards = []api.Card{{Functions: []api.Function{fn(-1, 0, bar(2, 20))}}, {Functions: []api.Function{fn(-1, 0, bar(2, 25)), fn(-1, 1)}}, {Functions: []api.Function{fn(-1, 0, bar(2, 31))}}}
	b.Rails = []api.Rail{{Supply: -1, RampUp: 2, RampDown: 1}}
	b.Devices = []api.BoardDevice{boardDevice(1, -1, 0), boardDevice(0, 0)}
	b.Domains = []api.BoardDomain{{Heat: api.HeatDomain{Capacity: 10, Ambient: 2}, Points: []api.OperatingPoint{{Frequency: 1, Power: 10}, {Frequency: 2, Power: 40}}, Governor: api.GovernorParams{Up: 50, Down: 20, Samples: 1}}}
	b.Ambient, b.Limit, b.Budget = 20, 60, 100
	b.Entries = []api.BootEntry{entry(0, "other", 2), entry(1, "system", 2)}
	b.Order = []int{0, 1}
	b.Images = []string{"wrong", "system"}
	return b
}

// P45.1: valid boards.
func TestValid(t *testing.T) {
	if !Valid(smallBoard()) || !Valid(fullBoard(t)) {
		t.Fatal("valid board refused")
	}
	below := fn(2, 0)
	for i, change := range []func(b *api.Board){
		func(b *api.Board) { b.Tables = "x" }, func(b *api.Board) { b.Tables = compiled(t, "Name (_SB, 1)") },
		func(b *api.Board) {
			s, _ := sdt.EncodeSet([]api.Table{{Signature: "DSDT", Body: "\xff"}})
			b.Tables = s
		},
		func(b *api.Board) { b.Functions[0].Parent = 3 }, func(b *api.Board) { b.Functions = append(b.Functions, below) }, func(b *api.Board) { b.Functions = make([]api.Function, 25) }, func(b *api.Board) { b.Host.Buses = 2 }, func(b *api.Board) { b.Host.Mem[0] = api.Range{Base: 0xFFFFF, Len: 0x1000000} }, func(b *api.Board) { b.Host.Mem[0].Len = 0x1000 }, func(b *api.Board) { b.Host.IO[0].Base = 1 << 20 }, func(b *api.Board) { b.Cards = make([]api.Card, 9) },
		func(b *api.Board) { b.Devices[0].Function = 4 }, func(b *api.Board) { b.Devices[0].Function = -1 }, func(b *api.Board) { b.Devices[0].Function = 2 }, func(b *api.Board) { b.Functions[0].Bars[0].Size = 13 }, func(b *api.Board) { b.Functions[1].Bars[0].Size = 7 }, func(b *api.Board) { b.Functions[1].Bars = nil }, func(b *api.Board) { b.Functions[1].Bars[0] = bar(1, 8) }, func(b *api.Board) { b.Devices[1].Driver = "" }, func(b *api.Board) { b.Rails = nil }, func(b *api.Board) { b.Limit = 10 },
		func(b *api.Board) { b.Interval = 0 }, func(b *api.Board) { b.Interval = 4097 }, func(b *api.Board) { b.Pages = 0 }, func(b *api.Board) { b.Pages = 65 }, func(b *api.Board) { b.Processes = -1 }, func(b *api.Board) { b.Processes = 65 }, func(b *api.Board) { b.FreezeTimeout = 4097 }, func(b *api.Board) { b.Sources = 33 }, func(b *api.Board) { b.Sources = -1 }, func(b *api.Board) { b.Sectors = 0 }, func(b *api.Board) { b.Sectors = 4097 },
		func(b *api.Board) { b.Flash.Pages = 0 }, func(b *api.Board) { b.Flash.Blocks = 1 }, func(b *api.Board) { b.Flash.Pages = 2 }, func(b *api.Board) { b.Entries[0].Attempts = 0 }, func(b *api.Board) { b.Order = []int{0, 0} }, func(b *api.Board) { b.Images = make([]string, 17) },
	} {
		b := fullBoard(t)
		change(&b)
		m, e := New(b)
		_, e2 := Replay(b, "")
		if Valid(b) || m != nil || e != api.ErrInvalid || Run(b, []api.Event{{Kind: 1}}) != nil || e2 != api.ErrInvalid {
			t.Error(i, e)
		}
	}
}

// P45.1: a new machine does not share memory with its board.
func TestNew(t *testing.T) {
	b := fullBoard(t)
	m, e := New(b)
	if e != api.OK {
		t.Fatal(e)
	}
	b.Functions[0].Bars[0].Size = 99
	b.Cards[0].Functions[0].Vendor = 0
	b.Images[1] = ""
	b.Devices[0].Power.Rails[0][0] = 9
	b.Devices[0].Driver = ""
	s := m.Snapshot()
	if s.Clock != 0 || s.Mode != api.ModeOff || s.Booted != -1 || s.Functions != 4 || len(s.Slots) != 2 || s.Slots[0] != api.SlotEmpty || len(s.Devices) != 2 || s.Devices[0] != (api.DeviceView{}) || s.Temperatures[0] != 20 || s.Powers[0] != 0 || s.Points[0] != 0 || len(s.Threads) != 0 || s.Resumed {
		t.Error(s)
	}
	if out := m.Step(api.Event{Kind: api.EvPowerOn}); out.Err != api.OK || m.Snapshot().Booted != 1 {
		t.Error(out)
	}
}
