package resources

import (
	"slices"
	"testing"

	"platformfw/api"
)

func bar(kind, size int) api.Bar { return api.Bar{Kind: kind, Size: size} }

func fn(parent, slot int, bars ...api.Bar) api.Function {
	return api.Function{Parent: parent, Slot: slot, Vendor: 1, Bars: bars}
}

func bridge(parent, slot int, pref, hotplug bool, bars ...api.Bar) api.Function {
	f := fn(parent, slot, bars...)
	f.Bridge, f.Pref64, f.Hotplug = true, pref, hotplug
	return f
}

func need(function, index, class, size int) api.Need {
	return api.Need{Function: function, Index: index, Class: class, Size: size}
}

var none = bar(0, 0)

// P20.1: classes.
func TestClass(t *testing.T) {
	l := []api.Function{bridge(-1, 0, true, false), bridge(0, 0, false, false), bridge(0, 1, true, false, bar(4, 20), none), fn(1, 0, bar(4, 20), none), fn(2, 0, bar(4, 20), none, bar(1, 4), bar(2, 12), bar(3, 12), none), fn(-1, 9, bar(4, 20), none)}
	for _, c := range []struct {
		high          bool
		function, bar int
		class         int
		ok            bool
	}{
		{true, 3, 0, 1, true}, {true, 4, 0, 2, true}, {false, 4, 0, 1, true}, {true, 4, 2, 0, true}, {true, 4, 3, 1, true}, {true, 4, 4, 1, true}, {true, 5, 0, 2, true}, {true, 2, 0, 2, true},
		{true, 4, 1, 0, false}, {true, 4, 6, 0, false}, {true, 4, -1, 0, false}, {true, 6, 0, 0, false}, {true, -1, 0, 0, false},
	} {
		if class, ok := Class(l, c.high, c.function, c.bar); class != c.class || ok != c.ok {
			t.Error(c, class, ok)
		}
	}
	if _, ok := Class([]api.Function{fn(0, 0, bar(1, 4))}, true, 0, 0); ok {
		t.Error("invalid topology")
	}
}

// P20.1: sizes of windows.
func TestWindowSize(t *testing.T) {
	for _, c := range []struct {
		sizes   []int
		class   int
		hotplug bool
		w       int
		ok      bool
	}{
		{[]int{12, 12, 13}, 1, false, 20, true}, {[]int{20, 20, 20}, 1, false, 22, true}, {[]int{20, 20}, 1, false, 21, true}, {[]int{20}, 2, false, 20, true}, {[]int{4}, 0, false, 12, true}, {[]int{12, 0}, 0, false, 13, true},
		{nil, 0, true, 12, true}, {nil, 1, true, 22, true}, {nil, 2, true, 22, true}, {[]int{23, 4}, 1, true, 24, true}, {[]int{44, 44}, 2, false, 45, true}, {make([]int, 1024), 0, false, 12, true}, {slices.Repeat([]int{44}, 1024), 2, false, 54, true},
		{nil, 0, false, 0, false}, {[]int{45}, 2, false, 0, false}, {[]int{-1}, 0, false, 0, false}, {make([]int, 1025), 0, false, 0, false}, {[]int{4}, 3, false, 0, false}, {[]int{4}, -1, true, 0, false},
	} {
		if w, ok := WindowSize(c.sizes, c.class, c.hotplug); w != c.w || ok != c.ok {
			t.Error(len(c.sizes), c.class, w, ok)
		}
	}
}

// P20.2: the needs of a topology.
func TestNeeds(t *testing.T) {
	l := []api.Function{bridge(-1, 0, true, false, bar(2, 12)), bridge(0, 0, true, true), fn(1, 0, bar(4, 21), none, bar(1, 8), bar(2, 20)), fn(0, 1, bar(1, 4), bar(1, 4)), bridge(-1, 1, false, true), bridge(-1, 2, true, false)}
	want := []api.Need{need(0, 0, 1, 12), need(0, -1, 0, 13), need(0, -2, 1, 22), need(0, -3, 2, 22), need(1, -1, 0, 12), need(1, -2, 1, 22), need(1, -3, 2, 22), need(2, 0, 2, 21), need(2, 2, 0, 8), need(2, 3, 1, 20), need(3, 0, 0, 4), need(3, 1, 0, 4), need(4, -1, 0, 12), need(4, -2, 1, 22)}
	if got, e := Needs(l, true); !slices.Equal(got, want) || e != api.OK {
		t.Error(got, e)
	}
	low, e := Needs(l, false)
	if e != api.OK || slices.ContainsFunc(low, func(n api.Need) bool { return n.Class == api.ClassPref }) || !slices.Contains(low, need(1, -2, 1, 22)) || !slices.Contains(low, need(0, -2, 1, 22)) {
		t.Error(low, e)
	}
	io := func(n int) []api.Function {
		l := []api.Function{bridge(-1, 0, false, false)}
		for i := range n {
			l = append(l, bridge(0, i, false, true))
		}
		return l
	}
	for i, c := range []struct {
		l []api.Function
		e api.Errno
	}{
		{nil, 0}, {[]api.Function{fn(0, 0)}, api.ErrInvalid}, {[]api.Function{fn(-1, 0, bar(3, 32), none)}, api.ErrOverflow}, {[]api.Function{fn(-1, 0, bar(4, 40), none)}, 0}, {[]api.Function{bridge(-1, 0, false, false), fn(0, 0, bar(4, 32), none)}, api.ErrOverflow},
		{[]api.Function{bridge(-1, 0, false, false), fn(0, 0, bar(2, 31))}, 0}, {[]api.Function{bridge(-1, 0, false, false), fn(0, 0, bar(2, 31), bar(2, 4))}, api.ErrOverflow}, {io(8), 0}, {io(9), api.ErrOverflow},
	} {
		if got, e := Needs(c.l, true); e != c.e || e != api.OK && got != nil {
			t.Error(i, e)
		}
	}
	wide := []api.Function{bridge(-1, 0, true, false)}
	for i := range 6 {
		wide = append(wide, fn(0, i, bar(4, 40), none, bar(4, 40), none, bar(4, 40), none))
	}
	if _, e := Needs(wide[:6], true); e != api.OK {
		t.Error(e)
	}
	if _, e := Needs(wide, true); e != api.ErrOverflow {
		t.Error(e)
	}
}

// P20.3: the needs below a bridge.
func TestBelow(t *testing.T) {
	l := []api.Function{bridge(-1, 0, true, false, bar(2, 12)), fn(0, 0, bar(1, 4), bar(2, 12)), fn(0, 1, bar(1, 5)), fn(-1, 1, bar(1, 6))}
	needs, _ := Needs(l, true)
	if got := Below(l, needs, 0, 0); !slices.Equal(got, []api.Need{need(1, 0, 0, 4), need(2, 0, 0, 5)}) {
		t.Error(got)
	}
	if got := Below(l, needs, -1, 0); !slices.Equal(got, []api.Need{need(0, -1, 0, 12), need(3, 0, 0, 6)}) {
		t.Error(got)
	}
	for _, f := range []int{1, 4, -2} {
		if Below(l, needs, f, 0) != nil {
			t.Error(f)
		}
	}
	if Below(l, append(needs, need(9, 0, 0, 1), need(-1, 0, 0, 1)), 0, 2) != nil {
		t.Error("foreign needs")
	}
}
