package hotplug

import (
	"slices"
	"testing"

	"platformfw/allocate"
	"platformfw/api"
)

func bar(kind, size int) api.Bar { return api.Bar{Kind: kind, Size: size} }

func fn(parent, slot int, bars ...api.Bar) api.Function {
	return api.Function{Parent: parent, Slot: slot, Vendor: 1, Bars: bars}
}

func bridge(parent, slot int, bars ...api.Bar) api.Function {
	f := fn(parent, slot, bars...)
	f.Bridge = true
	return f
}

func port(parent, slot int) api.Function {
	f := bridge(parent, slot)
	f.Hotplug = true
	return f
}

// inState returns a slot in a state, at time 0 and with delay 5.
func inState(state int) *Slot {
	s, _ := NewSlot(state != api.SlotEmpty, 5)
	if state == api.SlotEmpty || state == api.SlotOff {
		return s
	}
	s.Handle(api.HotPowerOn, 0)
	switch state {
	case api.SlotFailed:
		s.Handle(api.HotFault, 0)
	case api.SlotOn, api.SlotStopping:
		s.Advance(5)
		if state == api.SlotStopping {
			s.Handle(api.HotEject, 5)
		}
	}
	return s
}

// P23.1: all transitions of a slot.
func TestSlot(t *testing.T) {
	type result struct {
		next    int
		actions []int
	}
	off, gone := []int{api.ActPowerOff}, []int{api.ActForget, api.ActPowerOff}
	table := map[[2]int]result{
		{api.HotInsert, api.SlotEmpty}: {api.SlotOff, nil}, {api.HotPowerOn, api.SlotOff}: {api.SlotPowering, []int{api.ActPowerOn}}, {api.HotPowerOn, api.SlotFailed}: {api.SlotPowering, []int{api.ActPowerOn}},
		{api.HotEject, api.SlotOn}: {api.SlotStopping, []int{api.ActStop}}, {api.HotEject, api.SlotPowering}: {api.SlotOff, off}, {api.HotStopped, api.SlotStopping}: {api.SlotOff, gone},
		{api.HotRemove, api.SlotOff}: {api.SlotEmpty, nil}, {api.HotRemove, api.SlotFailed}: {api.SlotEmpty, nil}, {api.HotRemove, api.SlotPowering}: {api.SlotEmpty, off}, {api.HotRemove, api.SlotOn}: {api.SlotEmpty, gone}, {api.HotRemove, api.SlotStopping}: {api.SlotEmpty, gone},
		{api.HotFault, api.SlotPowering}: {api.SlotFailed, off}, {api.HotFault, api.SlotOn}: {api.SlotFailed, gone}, {api.HotFault, api.SlotStopping}: {api.SlotFailed, gone},
	}
	for state := api.SlotEmpty; state <= api.SlotFailed; state++ {
		for event := -1; event <= 7; event++ {
			s := inState(state)
			if s.State() != state {
				t.Fatal(state, s.State())
			}
			actions, e := s.Handle(event, 10)
			want, ok := table[[2]int{event, state}]
			switch {
			case ok && (e != api.OK || s.State() != want.next || !slices.Equal(actions, want.actions)):
				t.Error(state, event, e, s.State(), actions)
			case !ok && event >= 1 && event <= 6 && e != api.ErrState, (event < 1 || event > 6) && e != api.ErrInvalid, !ok && s.State() != state:
				t.Error(state, event, e)
			}
		}
	}
	s, _ := NewSlot(true, 5)
	s.Handle(api.HotPowerOn, 10)
	if s.Advance(14) != nil || !slices.Equal(s.Advance(15), []int{api.ActScan}) || s.State() != api.SlotOn || s.Advance(16) != nil {
		t.Error("advance")
	}
	s = inState(api.SlotOff)
	s.Handle(api.HotPowerOn, 1<<64-3)
	if s.Advance(1<<64-2) != nil || s.Advance(1<<64-1) == nil {
		t.Error("saturation")
	}
	if s, e := NewSlot(true, api.MaxDelay+1); s != nil || e != api.ErrInvalid {
		t.Error(e)
	}
	if _, e := NewSlot(true, api.MaxDelay); e != api.OK {
		t.Error(e)
	}
}

func same(a, b []api.Function) bool {
	return slices.EqualFunc(a, b, func(x, y api.Function) bool {
		return x.Parent == y.Parent && x.Slot == y.Slot && x.Bridge == y.Bridge && x.Hotplug == y.Hotplug && slices.Equal(x.Bars, y.Bars)
	})
}

// P23.2: plugging a card in.
func TestAdd(t *testing.T) {
	l := []api.Function{port(-1, 0), fn(-1, 1), port(-1, 2), fn(2, 0)}
	card := []api.Function{bridge(-1, 0, bar(2, 12)), fn(0, 0, bar(1, 4))}
	out, e := Add(l, 0, card)
	want := append(slices.Clone(l), bridge(0, 0, bar(2, 12)), fn(4, 0, bar(1, 4)))
	if e != api.OK || !same(out, want) || card[1].Parent != 0 {
		t.Error(out, e)
	}
	out[4].Bars[0].Size = 20
	if card[0].Bars[0].Size != 12 {
		t.Error("memory shared")
	}
	for i, c := range []struct {
		l    []api.Function
		port int
		card []api.Function
		e    api.Errno
	}{
		{[]api.Function{fn(3, 0)}, 9, nil, api.ErrInvalid}, {l, 1, nil, api.ErrNotFound}, {l, -1, nil, api.ErrNotFound}, {l, 4, nil, api.ErrNotFound}, {l, 2, []api.Function{fn(-5, 0)}, api.ErrBusy}, {l, 0, []api.Function{fn(-2, 0)}, api.ErrInvalid}, {l, 0, []api.Function{fn(1, 0)}, api.ErrInvalid},
		{l, 0, []api.Function{fn(-1, 0), fn(-1, 0)}, api.ErrInvalid}, {l, 0, []api.Function{fn(1<<63-1, 0)}, api.ErrInvalid}, {l, 0, make([]api.Function, 61), api.ErrInvalid}, {l, 0, nil, api.OK},
	} {
		if out, e := Add(c.l, c.port, c.card); e != c.e || e != api.OK && out != nil {
			t.Error(i, e)
		}
	}
}

// P23.3: removing a card.
func TestRemove(t *testing.T) {
	l := []api.Function{port(-1, 0), bridge(-1, 1), bridge(0, 0), fn(1, 0, bar(1, 4)), fn(2, 0), port(1, 1), fn(5, 0)}
	at := func(f int, base uint64) api.Assignment {
		return api.Assignment{Need: api.Need{Function: f}, Base: base}
	}
	a := []api.Assignment{at(6, 1), at(3, 2), at(4, 3), at(0, 4), at(9, 5), at(-1, 6)}
	out, left, index, e := Remove(l, a, 0)
	want := []api.Function{port(-1, 0), bridge(-1, 1), fn(1, 0, bar(1, 4)), port(1, 1), fn(3, 0)}
	if e != api.OK || !same(out, want) || !slices.Equal(left, []api.Assignment{at(4, 1), at(2, 2), at(0, 4)}) || !slices.Equal(index, []int{0, 1, -1, 2, -1, 3, 4}) {
		t.Error(out, left, index, e)
	}
	if l[5].Parent != 1 || a[0].Need.Function != 6 {
		t.Error("arguments changed")
	}
	for _, p := range []int{1, 7, -1} {
		if out, left, index, e := Remove(l, a, p); out != nil || left != nil || index != nil || e != api.ErrNotFound {
			t.Error(p, e)
		}
	}
	if _, _, _, e := Remove([]api.Function{fn(0, 0)}, nil, 0); e != api.ErrInvalid {
		t.Error(e)
	}
}

func host() api.Host {
	return api.Host{Buses: 256, IO: []api.Range{{Base: 0x1000, Len: 0xF000}}, Mem: []api.Range{{Base: 0x80000000, Len: 0x8000000}}}
}

func plan(t *testing.T, l []api.Function, n int) ([]api.Assignment, []api.Move) {
	t.Helper()
	a, _, e := allocate.Assign(l[:n], host())
	if e != api.OK {
		t.Fatal(e)
	}
	out, moves, c, e := Plan(l, host(), a, n)
	if e != api.OK || c != (api.Certificate{}) || !allocate.Check(l, host(), out) {
		t.Fatal(e, c)
	}
	return out, moves
}

// P23.4: a card that fits into the spare window of its port.
func TestPlanExtend(t *testing.T) {
	l := []api.Function{port(-1, 0), fn(-1, 1, bar(2, 12)), bridge(0, 0, bar(2, 12)), fn(2, 0, bar(2, 20), bar(1, 4))}
	_, moves := plan(t, l, 2)
	want := []api.Move{{Kind: 2, Function: 2, Index: 0, Base: 0x80100000}, {Kind: 2, Function: 2, Index: -1, Base: 0x1000}, {Kind: 2, Function: 2, Index: -2, Base: 0x80000000}, {Kind: 2, Function: 3, Index: 0, Base: 0x80000000}, {Kind: 2, Function: 3, Index: 1, Base: 0x1000}, {Kind: 3, Function: 2}, {Kind: 3, Function: 3}}
	if !slices.Equal(moves, want) {
		t.Error(moves)
	}
	if _, moves := plan(t, l, 4); moves != nil {
		t.Error(moves)
	}
	shared := []api.Function{port(-1, 0), fn(0, 0, bar(2, 20)), fn(0, 1, bar(2, 20))}
	if out, _ := plan(t, shared, 2); out[3].Base != 0x80100000 {
		t.Error(out)
	}
}

// P23.4: a card for which others must move.
func TestPlanReassign(t *testing.T) {
	l := []api.Function{port(-1, 0), fn(-1, 1, bar(2, 12)), fn(-1, 2, bar(1, 4)), fn(-1, 3), fn(0, 0, bar(2, 24))}
	_, moves := plan(t, l, 4)
	want := []api.Move{{Kind: 1, Function: 1}, {Kind: 1, Function: 0}, {Kind: 2, Function: 0, Index: -1, Base: 0x1000}, {Kind: 2, Function: 0, Index: -2, Base: 0x80000000}, {Kind: 2, Function: 1, Index: 0, Base: 0x81000000}, {Kind: 2, Function: 4, Index: 0, Base: 0x80000000}, {Kind: 3, Function: 0}, {Kind: 3, Function: 1}, {Kind: 3, Function: 4}}
	if !slices.Equal(moves, want) {
		t.Error(moves)
	}
	out, moves, _, e := Plan(l, host(), nil, 4)
	if e != api.OK || !allocate.Check(l, host(), out) || moves[0] != (api.Move{Kind: 1, Function: 2}) {
		t.Error("assignments that do not pass the test", moves, e)
	}
}

// P23.4: errors.
func TestPlanErrors(t *testing.T) {
	l := []api.Function{port(-1, 0), fn(0, 0, bar(2, 27)), fn(-1, 1)}
	for i, c := range []struct {
		l []api.Function
		h api.Host
		n int
		e api.Errno
	}{
		{[]api.Function{fn(0, 0)}, host(), 0, api.ErrInvalid}, {l, api.Host{}, 3, api.ErrInvalid}, {l, host(), -1, api.ErrInvalid}, {l, host(), 4, api.ErrInvalid}, {l, host(), 1, api.ErrInvalid}, {l, host(), 3, api.OK},
		{[]api.Function{port(-1, 0), fn(0, 0, bar(2, 28))}, host(), 1, api.ErrNoSpace}, {[]api.Function{port(-1, 0), fn(0, 0, bar(3, 32), bar(0, 0))}, host(), 1, api.ErrOverflow}, {[]api.Function{bridge(-1, 0), fn(0, 0)}, host(), 1, api.ErrInvalid},
	} {
		out, moves, cert, e := Plan(c.l, c.h, nil, c.n)
		if e != c.e || e != api.OK && (out != nil || moves != nil) || (e == api.ErrNoSpace) != (cert != api.Certificate{}) {
			t.Error(i, e, cert)
		}
	}
}
