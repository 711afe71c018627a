package interrupts

import (
	"slices"
	"testing"

	"platformfw/api"
)

func fn(parent, slot, pin int) api.Function {
	return api.Function{Parent: parent, Slot: slot, Pin: pin, Vendor: 1}
}

func bridge(parent, slot int) api.Function {
	return api.Function{Parent: parent, Slot: slot, Vendor: 1, Bridge: true}
}

// P22.1: pins behind bridges, and links.
func TestSwizzleLinkOf(t *testing.T) {
	l := []api.Function{bridge(-1, 5), fn(0, 2, 1), bridge(0, 3), fn(2, 7, 4), fn(-1, 6, 2), fn(0, 4, 4)}
	for i, want := range [][3]int{{0, 0, 0}, {5, 3, 1}, {0, 0, 0}, {5, 2, 1}, {6, 2, 1}, {5, 4, 1}} {
		slot, pin, ok := Swizzle(l, i)
		if slot != want[0] || pin != want[1] || ok != (want[2] == 1) {
			t.Error(i, slot, pin, ok)
		}
	}
	h := api.Host{Buses: 1, Links: make([]api.IntLink, 3), Routes: []api.Route{{Slot: 5, Pin: 3, Link: 2}, {Slot: 5, Pin: 3, Link: 1}, {Slot: 6, Pin: 2, Link: 0}}}
	for i, want := range []int{-1, 2, -1, -1, 0, -1} {
		link, ok := LinkOf(l, h, i)
		if ok != (want >= 0) || link != max(want, 0) {
			t.Error(i, link, ok)
		}
	}
	for _, i := range []int{-1, 6} {
		if _, _, ok := Swizzle(l, i); ok {
			t.Error(i)
		}
	}
	if _, _, ok := Swizzle([]api.Function{fn(0, 0, 1)}, 0); ok {
		t.Error("invalid topology")
	}
	h.Buses = 0
	if _, ok := LinkOf(l, h, 4); ok {
		t.Error("invalid host")
	}
}

// P22.2: interrupts of links and functions.
func TestConnect(t *testing.T) {
	l := []api.Function{fn(-1, 0, 1), fn(-1, 1, 1), fn(-1, 2, 1), fn(-1, 3, 1), fn(-1, 4, 1), fn(-1, 5, 1), fn(-1, 6, 0)}
	h := api.Host{Buses: 1, Links: []api.IntLink{{Possible: 1<<9 | 1<<5}, {Possible: 1<<5 | 1<<9}, {Possible: 0}, {Possible: 1<<5 | 1<<9 | 1<<31}, {Possible: 1<<9 | 1<<5}}}
	for slot, link := range []int{0, 0, 1, 3, 4} {
		h.Routes = append(h.Routes, api.Route{Slot: slot, Pin: 1, Link: link})
	}
	if got, e := Connect(l, h); !slices.Equal(got, []int{5, 9, -1, 31, 9}) || e != api.OK {
		t.Error(got, e)
	}
	if got, e := Lines(l, h); !slices.Equal(got, []int{5, 5, 9, 31, 9, -1, -1}) || e != api.OK {
		t.Error(got, e)
	}
	h.Routes = append(h.Routes, api.Route{Slot: 5, Pin: 1, Link: 2})
	if got, e := Lines(l, h); got != nil || e != api.ErrNoSpace {
		t.Error(got, e)
	}
	if got, e := Connect(l, api.Host{}); got != nil || e != api.ErrInvalid {
		t.Error(got, e)
	}
	if got, e := Lines([]api.Function{fn(0, 0, 1)}, h); got != nil || e != api.ErrInvalid {
		t.Error(got, e)
	}
}

// P22.3: message interrupts.
func TestVectors(t *testing.T) {
	with := func(vectors ...int) []api.Function {
		var l []api.Function
		for i, v := range vectors {
			f := fn(-1, i, 0)
			f.Vectors = v
			l = append(l, f)
		}
		return l
	}
	if got, c, e := Vectors(with(1, 0, 32, 4, 1)); !slices.Equal(got, []int{0x44, 0, 0x20, 0x40, 0x45}) || c != (api.Certificate{}) || e != api.OK {
		t.Error(got, e)
	}
	if got, _, e := Vectors(with(32, 32, 32, 32, 32, 32, 16)); e != api.OK || got[6] != 0xE0 {
		t.Error(got, e)
	}
	if got, c, e := Vectors(with(32, 32, 32, 32, 32, 32, 32)); got != nil || e != api.ErrNoSpace || c != (api.Certificate{Level: 5, Demand: 224, Blocks: 6}) {
		t.Error(c, e)
	}
	if _, _, e := Vectors(with(3)); e != api.ErrInvalid {
		t.Error(e)
	}
}
