package heat

import (
	"slices"
	"testing"

	"platformfw/api"
)

func dom(capacity, ambient int64) api.HeatDomain {
	return api.HeatDomain{Capacity: capacity, Ambient: ambient}
}

func link(a, b int, c int64) api.HeatLink { return api.HeatLink{A: a, B: b, Conductance: c} }

const big = api.MaxHeat

// P38.1: valid models.
func TestNew(t *testing.T) {
	two := []api.HeatDomain{dom(10, 1), dom(10, 1)}
	for i, c := range []struct {
		d       []api.HeatDomain
		l       []api.HeatLink
		ambient int64
		ok      bool
	}{
		{two, []api.HeatLink{link(0, 1, 9)}, 20, true}, {[]api.HeatDomain{dom(big, big)}, nil, -big, true}, {slices.Repeat(two, 8), nil, big, true}, {nil, nil, 0, false}, {slices.Repeat(two, 9)[:17], nil, 0, false}, {two, nil, big + 1, false}, {two, nil, -big - 1, false}, {[]api.HeatDomain{dom(big+1, 1)}, nil, 0, false}, {[]api.HeatDomain{dom(1, 0)}, nil, 0, false}, {[]api.HeatDomain{dom(1, 2)}, nil, 0, false}, {[]api.HeatDomain{dom(0, 1<<62)}, nil, 0, false},
		{two, []api.HeatLink{link(0, 1, 10)}, 0, false}, {two, []api.HeatLink{link(0, 1, 0)}, 0, false}, {two, []api.HeatLink{link(0, 0, 1)}, 0, false}, {two, []api.HeatLink{link(0, 2, 1)}, 0, false}, {two, []api.HeatLink{link(-1, 0, 1)}, 0, false}, {two, []api.HeatLink{link(0, 1, 1), link(1, 0, 1)}, 0, false}, {two, []api.HeatLink{link(0, 1, 1<<63-1)}, 0, false},
	} {
		m, e := New(c.d, c.l, c.ambient)
		if (e == api.OK) != c.ok || (m != nil) != c.ok || !c.ok && e != api.ErrInvalid {
			t.Error(i, e)
		}
		if _, e := Bound(c.d, c.l, c.ambient, make([]int64, len(c.d))); (e == api.OK) != c.ok {
			t.Error(i, e)
		}
	}
}

// P38.2 and P38.3: steps.
func TestStep(t *testing.T) {
	m, _ := New([]api.HeatDomain{dom(10, 1)}, nil, 20)
	if m.Energy(0) != 200 || m.Temperature(0) != 20 || m.Released() != 0 {
		t.Error("initial")
	}
	l, e := m.Step([]int64{15})
	if !slices.Equal(l, []int64{21}) || e != api.OK || m.Energy(0) != 215 {
		t.Error(l, m.Energy(0))
	}
	c := m.Copy()
	m.Step([]int64{15})
	if m.Energy(0) != 229 || m.Released() != 1 || c.Energy(0) != 215 || c.Released() != 0 {
		t.Error(m.Energy(0))
	}
	for i, p := range [][]int64{nil, {1, 2}, {-1}, {big + 1}} {
		if l, e := m.Step(p); l != nil || e != api.ErrInvalid || m.Energy(0) != 229 {
			t.Error(i, e)
		}
	}
	if m.Energy(1) != 0 || m.Temperature(-1) != 0 {
		t.Error("no domain")
	}
	m, _ = New([]api.HeatDomain{dom(20, 3), dom(30, 2), dom(7, 1)}, []api.HeatLink{link(0, 1, 4), link(2, 0, 5)}, -5)
	l, _ = m.Step([]int64{90, 0, 6})
	if !slices.Equal(l, []int64{-1, -5, -5}) || m.Energy(2) != -29 {
		t.Error(l, m.Energy(2))
	}
	l, _ = m.Step([]int64{0, 0, 0})
	if m.Energy(0) != -10-12-16-20 || m.Energy(1) != -150+16 || m.Energy(2) != -29+20 || !slices.Equal(l, []int64{-3, -5, -2}) || m.Released() != 12 {
		t.Error(l, m.Energy(0), m.Energy(1), m.Energy(2), m.Released())
	}
}

// P38.2 to P38.4: the balance of energy and the bound.
func TestBalance(t *testing.T) {
	domains := []api.HeatDomain{dom(50, 3), dom(41, 1), dom(60, 7)}
	links := []api.HeatLink{link(0, 1, 20), link(1, 2, 20), link(0, 2, 13)}
	m, e := New(domains, links, 10)
	if e != api.OK {
		t.Fatal(e)
	}
	limit, _ := Bound(domains, links, 10, []int64{30, 25, 90})
	if limit != 35 {
		t.Error(limit)
	}
	if b, _ := Bound(domains, links, 10, []int64{31, 0, 0}); b != 21 {
		t.Error("rounding up", b)
	}
	sum := int64(10 * (50 + 41 + 60))
	for i := range int64(500) {
		p := []int64{i * 7 % 31, i * 11 % 26, i * 5 % 91}
		l, _ := m.Step(p)
		sum += p[0] + p[1] + p[2]
		if m.Energy(0)+m.Energy(1)+m.Energy(2)+m.Released() != sum || slices.Max(l) > limit || slices.Min(l) < 10 {
			t.Fatal(i, l)
		}
	}
	for _, p := range [][]int64{{1, 2}, {1, 2, -1}, {1, 2, big + 1}} {
		if b, e := Bound(domains, links, 10, p); b != 0 || e != api.ErrInvalid {
			t.Error(p, e)
		}
	}
}
