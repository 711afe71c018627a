package pciconf

import (
	"slices"
	"testing"

	"platformfw/api"
)

func fn(bars ...api.Bar) api.Function {
	return api.Function{Vendor: 0x1234, Device: 0x5678, Bars: bars}
}

func bridge(bars ...api.Bar) api.Function {
	f := fn(bars...)
	f.Bridge, f.Pref64 = true, true
	return f
}

func bar(kind, size int) api.Bar { return api.Bar{Kind: kind, Size: size} }

func device(t *testing.T, f api.Function) *Device {
	t.Helper()
	d, e := New(f)
	if e != api.OK {
		t.Fatal(f, e)
	}
	return d
}

// P18.1: validity.
func TestValid(t *testing.T) {
	with := func(change func(f *api.Function)) api.Function { f := fn(); change(&f); return f }
	good := []api.Function{fn(), fn(bar(1, 2), bar(1, 8), bar(2, 4), bar(2, 31), bar(4, 40), bar(0, 0)), bridge(bar(3, 4), bar(0, 0)), with(func(f *api.Function) { f.Bridge, f.Hotplug, f.Spare = true, true, 32 }), with(func(f *api.Function) {
		f.Vectors, f.Pin, f.Slot, f.Vendor, f.Device, f.Parent = 32, 4, 31, 65534, 65535, 99
	})}
	for i, f := range good {
		if !Valid(f) {
			t.Error(i)
		}
	}
	bad := []api.Function{
		fn(bar(0, 1)), fn(bar(1, 1)), fn(bar(1, 9)), fn(bar(2, 3)), fn(bar(2, 32)), fn(bar(3, 3), bar(0, 0)), fn(bar(3, 41), bar(0, 0)), fn(bar(3, 4)), fn(bar(4, 4), bar(1, 4)), fn(bar(5, 4)), fn(bar(-1, 4)), fn(make([]api.Bar, 7)...), bridge(make([]api.Bar, 3)...), fn(bar(0, 0), bar(0, 0), bar(0, 0), bar(0, 0), bar(0, 0), bar(4, 8)),
		with(func(f *api.Function) { f.Vendor = 0 }), with(func(f *api.Function) { f.Vendor = 65535 }), with(func(f *api.Function) { f.Device = -1 }), with(func(f *api.Function) { f.Device = 65536 }), with(func(f *api.Function) { f.Slot = 32 }), with(func(f *api.Function) { f.Slot = -1 }), with(func(f *api.Function) { f.Pin = 5 }), with(func(f *api.Function) { f.Pin = -1 }), with(func(f *api.Function) { f.Vectors = 3 }), with(func(f *api.Function) { f.Vectors = 64 }), with(func(f *api.Function) { f.Vectors = -1 }),
		with(func(f *api.Function) { f.Pref64 = true }), with(func(f *api.Function) { f.Hotplug = true }), with(func(f *api.Function) { f.Bridge, f.Spare = true, 1 }), with(func(f *api.Function) { f.Bridge, f.Hotplug, f.Spare = true, true, 33 }), with(func(f *api.Function) { f.Bridge, f.Hotplug, f.Spare = true, true, -1 }),
	}
	for i, f := range bad {
		if d, e := New(f); Valid(f) || d != nil || e != api.ErrInvalid {
			t.Error(i)
		}
	}
}

// P18.1: registers of a function.
func TestFunctionRegisters(t *testing.T) {
	f := fn(bar(1, 4), bar(2, 12), bar(3, 20), bar(0, 0), bar(4, 36), bar(0, 0))
	f.Pin = 3
	d := device(t, f)
	for i := range 64 {
		d.Write(4*i, 4, 1<<40-1)
	}
	for offset, want := range map[int]uint64{0: 0x56781234, 4: 7, 0xC: 0, 0x10: 0xFFFFFFF1, 0x14: 0xFFFFF000, 0x18: 0xFFF00004, 0x1C: 0xFFFFFFFF, 0x20: 0xC, 0x24: 0xFFFFFFF0, 0x28: 0, 0x3C: 0x3FF, 0xFC: 0} {
		if v := d.Read(offset, 4); v != want {
			t.Errorf("%x: %x, want %x", offset, v, want)
		}
	}
	d.Write(0x15, 1, 0x23)
	d.Write(0x16, 2, 0x4567)
	if d.Read(0x14, 4) != 0x45672000 || d.Read(0x16, 2) != 0x4567 || d.Read(0x17, 1) != 0x45 {
		t.Errorf("%x", d.Read(0x14, 4))
	}
	for _, c := range [][2]int{{1, 2}, {2, 4}, {0, 3}, {0, 0}, {0, 8}, {256, 1}, {-4, 4}, {0, -1}} {
		d.Write(c[0], c[1], 0)
		if d.Read(c[0], c[1]) != 0 {
			t.Error(c)
		}
	}
	if d.Read(4, 2) != 7 || device(t, fn(bar(2, 12))).Read(0x10, 4) != 0 {
		t.Error("initial values")
	}
}

// P18.1: registers of a bridge.
func TestBridgeRegisters(t *testing.T) {
	d := device(t, bridge(bar(2, 4)))
	if d.Read(0xE, 1) != 1 || d.Read(0x24, 4) != 0x10001 {
		t.Error("initial values")
	}
	for i := range 64 {
		d.Write(4*i, 4, 1<<32-1)
	}
	for offset, want := range map[int]uint64{0x10: 0xFFFFFFF0, 0x14: 0, 0x18: 0xFFFFFF, 0x1C: 0xF0F0, 0x20: 0xFFF0FFF0, 0x24: 0xFFF1FFF1, 0x28: 0xFFFFFFFF, 0x2C: 0xFFFFFFFF, 0x30: 0, 0x3C: 0xFF} {
		if v := d.Read(offset, 4); v != want {
			t.Errorf("%x: %x, want %x", offset, v, want)
		}
	}
	f := bridge()
	f.Pref64 = false
	d = device(t, f)
	d.Write(0x24, 4, 1<<32-1)
	d.Write(0x28, 4, 1<<32-1)
	if d.Read(0x24, 4) != 0 || d.Read(0x28, 4) != 0 {
		t.Error("registers without Pref64")
	}
}

// P18.2: probing.
func TestProbe(t *testing.T) {
	for _, f := range []api.Function{fn(), fn(bar(1, 2), bar(2, 31), bar(3, 40), bar(0, 0), bar(4, 32)), fn(bar(0, 0), bar(4, 4), bar(0, 0), bar(3, 33), bar(0, 0), bar(1, 8)), bridge(bar(3, 31), bar(0, 0)), bridge(bar(2, 4))} {
		if len(f.Bars) == 5 {
			f.Bars = append(f.Bars, bar(0, 0))
		}
		d := device(t, f)
		d.Write(0x10, 4, 0x12345678)
		d.Write(0x14, 4, 0x9ABCDEF0)
		before := d.bytes
		want := append(slices.Clone(f.Bars), make([]api.Bar, registers(f)-len(f.Bars))...)
		if got := d.Probe(); !slices.Equal(got, want) || d.bytes != before {
			t.Error(got, want)
		}
	}
}

// P18.3: windows.
func TestWindows(t *testing.T) {
	d := device(t, fn(bar(0, 0), bar(1, 4), bar(4, 33), bar(0, 0), bar(2, 12)))
	d.Write(0x14, 4, 0xCC1F)
	d.Write(0x18, 4, 1<<32-1)
	d.Write(0x1C, 4, 5)
	d.Write(0x20, 4, 0xE0001234)
	d.Write(4, 2, 1)
	want := []api.Window{{Index: 1, Class: 0, Range: api.Range{Base: 0xCC10, Len: 16}, Enabled: true}, {Index: 2, Class: 2, Range: api.Range{Base: 4 << 32, Len: 1 << 33}}, {Index: 4, Class: 1, Range: api.Range{Base: 0xE0001000, Len: 4096}}}
	if l := d.Windows(); !slices.Equal(l, want) {
		t.Error(l)
	}
	d = device(t, bridge())
	d.Write(4, 2, 2)
	want = []api.Window{{Index: -1, Class: 0, Range: api.Range{Base: 0, Len: 0x1000}}, {Index: -2, Class: 1, Range: api.Range{Base: 0, Len: 0x100000}, Enabled: true}, {Index: -3, Class: 2, Range: api.Range{Base: 0, Len: 0x100000}, Enabled: true}}
	if l := d.Windows(); !slices.Equal(l, want) {
		t.Error(l)
	}
	d.Write(0x1C, 2, 0xE0D0)
	d.Write(0x20, 4, 0xE000E010)
	d.Write(0x26, 2, 0xFFFF)
	d.Write(0x2C, 4, 1<<32-1)
	want = []api.Window{{Index: -1, Class: 0, Range: api.Range{Base: 0xD000, Len: 0x2000}}, {Index: -3, Class: 2, Range: api.Range{Base: 0, Len: 0}, Enabled: true}}
	if l := d.Windows(); !slices.Equal(l, want) {
		t.Error(l)
	}
	d = device(t, bridge(bar(3, 20), bar(0, 0)))
	d.Write(0x14, 4, 7)
	if l := d.Windows(); l[0] != (api.Window{Index: 0, Class: 1, Range: api.Range{Base: 7 << 32, Len: 1 << 20}}) {
		t.Error(l)
	}
}
