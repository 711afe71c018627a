package enumerate

import (
	"slices"
	"testing"

	"platformfw/api"
)

func fn(parent, slot int) api.Function {
	return api.Function{Parent: parent, Slot: slot, Vendor: 1}
}

func bridge(parent, slot, spare int) api.Function {
	return api.Function{Parent: parent, Slot: slot, Vendor: 1, Bridge: true, Hotplug: spare > 0, Spare: spare}
}

// sample has a function, a bridge with a hot-plug port below it, and another bridge in a smaller slot.
func sample() []api.Function {
	return []api.Function{bridge(-1, 9, 0), fn(-1, 5), bridge(0, 3, 2), bridge(-1, 2, 0), fn(2, 0), fn(0, 1), fn(3, 7)}
}

// P19.1: validity and the order of the traversal.
func TestValidVisit(t *testing.T) {
	l := sample()
	if !Valid(l) || !Valid(nil) || !slices.Equal(Visit(l), []int{3, 6, 1, 0, 5, 2, 4}) {
		t.Error(Visit(l))
	}
	many := make([]api.Function, 65)
	many[0] = bridge(-1, 0, 0)
	many[1] = bridge(-1, 1, 0)
	for i := 2; i < 65; i++ {
		many[i] = fn(i%2, i/2%32)
	}
	if !Valid(many[:64]) || Valid(many) {
		t.Error("number of functions")
	}
	for i, bad := range [][]api.Function{{fn(0, 0)}, {fn(-2, 0)}, {fn(-1, 0), fn(-1, 0)}, {fn(-1, 0), fn(0, 0)}, {bridge(-1, 0, 0), fn(2, 0), fn(0, 0)}, {{Parent: -1}}} {
		_, e := Buses(bad, 256)
		if Valid(bad) || Visit(bad) != nil || e != api.ErrInvalid || Writes(bad, nil) != nil {
			t.Error(i)
		}
	}
}

// P19.2: bus numbers.
func TestBuses(t *testing.T) {
	l := sample()
	want := []api.BusNumbers{{Bus: 0, Secondary: 2, Subordinate: 5}, {}, {Bus: 2, Secondary: 3, Subordinate: 5}, {Bus: 0, Secondary: 1, Subordinate: 1}, {Bus: 3}, {Bus: 2}, {Bus: 1}}
	for n, e := range map[int]api.Errno{0: api.ErrInvalid, 257: api.ErrInvalid, 1: api.ErrNoSpace, 5: api.ErrNoSpace, 6: api.OK, 256: api.OK} {
		b, got := Buses(l, n)
		if got != e || e == api.OK && !slices.Equal(b, want) || e != api.OK && b != nil {
			t.Error(n, b, got)
		}
	}
	two := []api.Function{bridge(-1, 0, 0), bridge(-1, 1, 0), bridge(0, 0, 0)}
	b, _ := Buses(two, 4)
	if b[0].Secondary != 1 || b[1].Secondary != 3 || b[2].Secondary != 2 {
		t.Error(b)
	}
	if b, e := Buses(nil, 1); len(b) != 0 || e != api.OK {
		t.Error(e)
	}
}

// P19.3: the writes of bus numbers.
func TestWrites(t *testing.T) {
	l := sample()
	b, _ := Buses(l, 256)
	var got [][3]int
	for _, op := range Writes(l, b) {
		if op.Width != 1 || !op.Write {
			t.Error(op)
		}
		got = append(got, [3]int{op.Function, op.Offset, int(op.Value)})
	}
	want := [][3]int{{3, 0x18, 0}, {3, 0x19, 1}, {3, 0x1A, 255}, {3, 0x1A, 1}, {0, 0x18, 0}, {0, 0x19, 2}, {0, 0x1A, 255}, {2, 0x18, 2}, {2, 0x19, 3}, {2, 0x1A, 255}, {2, 0x1A, 5}, {0, 0x1A, 5}}
	if !slices.Equal(got, want) {
		t.Error(got)
	}
	b[0].Subordinate = 6
	if Writes(l, b) != nil || Writes(l, b[:3]) != nil {
		t.Error("other numbers")
	}
}

// P19.4: routing.
func TestRoute(t *testing.T) {
	l := sample()
	b, _ := Buses(l, 256)
	for i, f := range l {
		if got, ok := Route(l, b, b[i].Bus, f.Slot); got != i || !ok {
			t.Error(i, got)
		}
	}
	for _, c := range [][2]int{{0, 1}, {3, 1}, {4, 0}, {6, 0}, {-1, 0}, {0, -1}, {256, 0}} {
		if got, ok := Route(l, b, c[0], c[1]); got != 0 || ok {
			t.Error(c, got)
		}
	}
	if _, ok := Route(l, nil, 0, 5); ok {
		t.Error("other numbers")
	}
}
