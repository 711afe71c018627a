package allocate

import (
	"slices"
	"testing"

	"platformfw/api"
	"platformfw/pciconf"
	"platformfw/resources"
)

func rng(base, n uint64) api.Range { return api.Range{Base: base, Len: n} }

func bar(kind, size int) api.Bar { return api.Bar{Kind: kind, Size: size} }

func fn(parent, slot int, bars ...api.Bar) api.Function {
	return api.Function{Parent: parent, Slot: slot, Vendor: 1, Bars: bars}
}

func bridge(parent, slot int, pref bool, bars ...api.Bar) api.Function {
	f := fn(parent, slot, bars...)
	f.Bridge, f.Pref64 = true, pref
	return f
}

func host() api.Host {
	return api.Host{Buses: 256, IO: []api.Range{rng(0x1000, 0xF000)}, Mem: []api.Range{rng(0x80000000, 0x40000000)}, High: []api.Range{rng(1<<32, 1<<40)}, FixedIO: []api.Range{rng(0x1000, 0x10)}, Fixed: []api.Range{rng(0x80000000, 0x1000)}, Links: []api.IntLink{{Possible: 1}}, Routes: []api.Route{{Slot: 31, Pin: 4, Link: 0}}}
}

// P21.1: hosts.
func TestValidHost(t *testing.T) {
	if !ValidHost(host()) || !ValidHost(api.Host{Buses: 1}) {
		t.Error("valid host refused")
	}
	many := make([]api.Range, 17)
	for i := range many {
		many[i] = rng(uint64(i)*100, 1)
	}
	for i, change := range []func(h *api.Host){
		func(h *api.Host) { h.Buses = 0 }, func(h *api.Host) { h.Buses = 257 }, func(h *api.Host) { h.IO = []api.Range{rng(0, 0)} }, func(h *api.Host) { h.IO = []api.Range{rng(0xFFFF, 2)} }, func(h *api.Host) { h.FixedIO = []api.Range{rng(0x10000, 1)} }, func(h *api.Host) { h.Mem = []api.Range{rng(0xFFFFFFFF, 2)} },
		func(h *api.Host) { h.High = []api.Range{rng(1<<32-1, 2)} }, func(h *api.Host) { h.High = []api.Range{rng(1<<52, 1)} }, func(h *api.Host) { h.Fixed = []api.Range{rng(1<<64-1, 2)} }, func(h *api.Host) { h.Fixed = many }, func(h *api.Host) { h.IO = many }, func(h *api.Host) { h.Links = make([]api.IntLink, 17) }, func(h *api.Host) { h.Routes = make([]api.Route, 129) },
		func(h *api.Host) { h.Routes[0].Slot = 32 }, func(h *api.Host) { h.Routes[0].Slot = -1 }, func(h *api.Host) { h.Routes[0].Pin = 0 }, func(h *api.Host) { h.Routes[0].Pin = 5 }, func(h *api.Host) { h.Routes[0].Link = 1 }, func(h *api.Host) { h.Routes[0].Link = -1 },
	} {
		h := host()
		change(&h)
		if ValidHost(h) {
			t.Error(i)
		}
	}
}

// P21.1: free space and blocks.
func TestFreeBlocks(t *testing.T) {
	for _, c := range []struct{ l, fixed, want []api.Range }{
		{nil, nil, nil}, {[]api.Range{rng(10, 5), rng(0, 10), rng(3, 4)}, nil, []api.Range{rng(0, 15)}}, {[]api.Range{rng(0, 10), rng(11, 1)}, nil, []api.Range{rng(0, 10), rng(11, 1)}},
		{[]api.Range{rng(0, 100)}, []api.Range{rng(20, 10), rng(10, 15), rng(90, 50), rng(40, 1)}, []api.Range{rng(0, 10), rng(30, 10), rng(41, 49)}}, {[]api.Range{rng(5, 5)}, []api.Range{rng(0, 20)}, nil}, {[]api.Range{rng(0, 1<<52)}, []api.Range{rng(0, 1)}, []api.Range{rng(1, 1<<52-1)}},
		{[]api.Range{rng(0, 0)}, nil, nil}, {[]api.Range{rng(0, 9)}, []api.Range{rng(1<<52, 1)}, nil}, {slices.Repeat([]api.Range{rng(0, 1)}, 1025), nil, nil}, {slices.Repeat([]api.Range{rng(0, 1)}, 1024), nil, []api.Range{rng(0, 1)}},
	} {
		if got := Free(c.l, c.fixed); !slices.Equal(got, c.want) {
			t.Error(c, got)
		}
	}
	free := []api.Range{rng(0x1000, 0x4000), rng(0x3000, 0x800)}
	for k, want := range map[int]uint64{0: 0x4000, 12: 4, 13: 1, 14: 0, -1: 0, 53: 0, 52: 0} {
		if got := Blocks(free, k); got != want {
			t.Error(k, got)
		}
	}
	if Blocks([]api.Range{rng(0, 1<<52)}, 52) != 1 || Blocks([]api.Range{rng(0, 0)}, 0) != 0 || Blocks([]api.Range{rng(0, 4), rng(4, 4)}, 3) != 1 {
		t.Error("blocks")
	}
}

// P21.2 and P21.3: placement and certificates.
func TestPlace(t *testing.T) {
	free := []api.Range{rng(0x1000, 0x4000)}
	b, c, e := Place(free, []int{12, 13})
	if !slices.Equal(b, []uint64{0x1000, 0x2000}) || c != (api.Certificate{}) || e != api.OK {
		t.Error(b, c, e)
	}
	b, c, e = Place(free, []int{13, 13})
	if b != nil || c != (api.Certificate{Level: 13, Demand: 0x4000, Blocks: 1}) || e != api.ErrNoSpace || !Refutes(free, []int{13, 13}, c) {
		t.Error(b, c, e)
	}
	b, _, _ = Place([]api.Range{rng(0, 16), rng(100, 28)}, []int{0, 3, 0, 3, 2})
	if !slices.Equal(b, []uint64{100, 0, 101, 8, 104}) && !slices.Equal(b, []uint64{104, 0, 105, 8, 100}) {
		t.Error(b)
	}
	for i, c := range []struct {
		free  []api.Range
		sizes []int
	}{{[]api.Range{rng(0, 0)}, nil}, {nil, []int{45}}, {nil, []int{-1}}, {nil, make([]int, 1025)}} {
		b, cert, e := Place(c.free, c.sizes)
		if b != nil || cert != (api.Certificate{}) || e != api.ErrInvalid || Refutes(c.free, c.sizes, api.Certificate{Demand: 1}) {
			t.Error(i, e)
		}
	}
	if b, _, e := Place([]api.Range{rng(3, 1024)}, make([]int, 1024)); e != api.OK || b[1023] != 1026 {
		t.Error(e)
	}
	good := api.Certificate{Class: 7, Level: 13, Demand: 0x4000, Blocks: 1}
	if !Refutes(free, []int{13, 13}, good) {
		t.Error("the class is ignored")
	}
	for i, change := range []func(c *api.Certificate){func(c *api.Certificate) { c.Level = 12 }, func(c *api.Certificate) { c.Level = 53 }, func(c *api.Certificate) { c.Level = -1 }, func(c *api.Certificate) { c.Demand++ }, func(c *api.Certificate) { c.Blocks-- }} {
		c := good
		change(&c)
		if Refutes(free, []int{13, 13}, c) {
			t.Error(i)
		}
	}
	if Refutes(free, []int{13}, api.Certificate{Level: 13, Demand: 0x2000, Blocks: 1}) {
		t.Error("it fits")
	}
}

// P21.2: a refusal is justified, and a placement is correct, for many small spaces.
func TestPlaceExhaustively(t *testing.T) {
	for mask := range 1 << 10 {
		var free []api.Range
		for i := range 10 {
			if mask>>i&1 != 0 {
				free = append(free, rng(uint64(i), 1))
			}
		}
		for _, sizes := range [][]int{{0}, {1, 0}, {0, 1, 1}, {2, 0}, {2, 1, 0}, {3}, {1, 1, 1}, {0, 0, 2}} {
			b, c, e := Place(free, sizes)
			fits := true
			for k := range 4 {
				if _, refuted := proof(free, sizes, k); refuted {
					fits = false
				}
			}
			if (e == api.OK) != fits || e != api.OK && !Refutes(free, sizes, c) {
				t.Fatal(mask, sizes, e)
			}
			left := mask
			for i, base := range b {
				block := (1<<(1<<sizes[i]) - 1) << base
				if left&block != block || base%(1<<sizes[i]) != 0 {
					t.Fatal(mask, sizes, b)
				}
				left &^= block
			}
		}
	}
}

func sample() []api.Function {
	return []api.Function{bridge(-1, 0, true, bar(2, 12)), fn(0, 0, bar(4, 24), bar(0, 0), bar(1, 8), bar(3, 16), bar(0, 0)), fn(-1, 1, bar(2, 16), bar(1, 4)), bridge(-1, 2, false)}
}

// P21.4 and P21.5: assignment and its test.
func TestAssignCheck(t *testing.T) {
	l, h := sample(), host()
	a, _, e := Assign(l, h)
	if e != api.OK || !Check(l, h, a) {
		t.Fatal(a, e)
	}
	want := map[[2]int]uint64{{0, 0}: 0x80001000, {0, -1}: 0x2000, {0, -2}: 0x80100000, {0, -3}: 1 << 32, {1, 0}: 1 << 32, {1, 2}: 0x2000, {1, 3}: 0x80100000, {2, 0}: 0x80010000, {2, 1}: 0x1010}
	for _, x := range a {
		if x.Base != want[[2]int{x.Need.Function, x.Need.Index}] {
			t.Errorf("%v %x", x.Need, x.Base)
		}
	}
	needs, _ := resources.Needs(l, true)
	for i := range needs {
		if a[i].Need != needs[i] {
			t.Error("order")
		}
		b := slices.Clone(a)
		b[i].Need.Size++
		c := slices.Clone(a)
		c[i].Base++
		d := slices.Clone(a)
		d[i].Base = 0
		f := slices.Clone(a)
		f[i].Base = -(uint64(1) << f[i].Need.Size)
		if Check(l, h, b) || Check(l, h, c) || Check(l, h, d) || Check(l, h, f) {
			t.Error("accepted", i)
		}
	}
	if Check(l, h, a[1:]) || Check(l, api.Host{}, a) || Check([]api.Function{fn(0, 0)}, h, nil) {
		t.Error("accepted")
	}
	two := []api.Function{fn(-1, 0, bar(2, 12)), fn(-1, 1, bar(2, 12))}
	b, _, _ := Assign(two, h)
	b[1].Base = b[0].Base
	if Check(two, h, b) {
		t.Error("overlap")
	}
	h.Fixed = []api.Range{rng(0x80000000, 0x40000000)}
	if a, c, e := Assign(l, h); a != nil || e != api.ErrNoSpace || c.Class != api.ClassMem || c.Level != 20 || c.Demand != 1<<20 || c.Blocks != 0 {
		t.Error(c, e)
	}
	for i, c := range []struct {
		l []api.Function
		h api.Host
		e api.Errno
	}{{[]api.Function{fn(0, 0)}, host(), api.ErrInvalid}, {nil, api.Host{}, api.ErrInvalid}, {[]api.Function{fn(-1, 0, bar(3, 32), bar(0, 0))}, host(), api.ErrOverflow}, {nil, api.Host{Buses: 1}, api.OK}} {
		if a, _, e := Assign(c.l, c.h); e != c.e || len(a) != 0 {
			t.Error(i, e)
		}
	}
}

// P21.6: the writes make the functions decode the assigned ranges.
func TestWrites(t *testing.T) {
	l := sample()
	a, _, _ := Assign(l, host())
	ops := Writes(l, a)
	devices := make([]*pciconf.Device, len(l))
	for i := range l {
		devices[i], _ = pciconf.New(l[i])
	}
	for _, op := range ops {
		devices[op.Function].Write(op.Offset, op.Width, op.Value)
	}
	at := 0
	for i, d := range devices {
		for _, w := range d.Windows() {
			x := a[at]
			if x.Need.Function != i || x.Need.Index != w.Index || x.Need.Class != w.Class || w.Range != rng(x.Base, 1<<x.Need.Size) || !w.Enabled {
				t.Error(i, w, x)
			}
			at++
		}
	}
	if at != len(a) {
		t.Error("missing windows")
	}
	op := func(f, offset, width int, v uint64) api.ConfigOp {
		return api.ConfigOp{Function: f, Offset: offset, Width: width, Write: true, Value: v}
	}
	want := []api.ConfigOp{op(0, 0x10, 4, 0x80001000), op(0, 0x1C, 1, 0x20), op(0, 0x1D, 1, 0x20), op(0, 0x20, 2, 0x8010), op(0, 0x22, 2, 0x8010), op(0, 0x24, 2, 0), op(0, 0x26, 2, 0xF0), op(0, 0x28, 4, 1), op(0, 0x2C, 4, 1), op(0, 4, 2, 7), op(1, 0x10, 4, 0), op(1, 0x14, 4, 1), op(1, 0x18, 4, 0x2000), op(1, 0x1C, 4, 0x80100000), op(1, 0x20, 4, 0), op(1, 4, 2, 3)}
	if !slices.Equal(ops[:len(want)], want) {
		t.Error(ops)
	}
	tail := []api.ConfigOp{op(3, 0x1C, 1, 0xF0), op(3, 0x1D, 1, 0), op(3, 0x20, 2, 0xFFF0), op(3, 0x22, 2, 0), op(3, 4, 2, 4)}
	if !slices.Equal(ops[len(ops)-5:], tail) {
		t.Error(ops)
	}
	if Writes(l, a[1:]) != nil || Writes([]api.Function{fn(0, 0)}, nil) != nil {
		t.Error("wrong arguments")
	}
	h := host()
	h.High = nil
	low, _, _ := Assign(l, h)
	if Writes(l, low) == nil || !slices.Contains(Writes(l, low), op(0, 0x28, 4, 1<<32-1)) {
		t.Error("without high memory")
	}
}
