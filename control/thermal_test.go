package control

import (
	"slices"
	"testing"

	"platformfw/api"
)

func point(f, v, p uint64) api.OperatingPoint {
	return api.OperatingPoint{Frequency: f, Voltage: v, Power: p}
}

func boardDomain() api.BoardDomain {
	return api.BoardDomain{Heat: api.HeatDomain{Capacity: 10, Ambient: 2}, Points: []api.OperatingPoint{point(1, 1, 10), point(2, 2, 25), point(3, 3, 60)}, Governor: api.GovernorParams{Up: 50, Down: 20, Samples: 1}, Trips: []api.Trip{{Kind: api.TripPassive, Temperature: 30, Hysteresis: 2}}}
}

// P44.1: valid thermal controls.
func TestNewThermal(t *testing.T) {
	d := boardDomain()
	for i, c := range []struct {
		change func(d *api.BoardDomain)
		ok     bool
	}{
		{func(d *api.BoardDomain) {}, true}, {func(d *api.BoardDomain) { d.Points = nil }, false}, {func(d *api.BoardDomain) { d.Governor.Up = 0 }, false}, {func(d *api.BoardDomain) { d.Trips[0].Kind = 9 }, false}, {func(d *api.BoardDomain) { d.Heat.Capacity = 1 }, false},
	} {
		x := boardDomain()
		c.change(&x)
		th, e := NewThermal([]api.BoardDomain{x}, nil, 20, 40, 100)
		if (e == api.OK) != c.ok || (th != nil) != c.ok || !c.ok && e != api.ErrInvalid {
			t.Error(i, e)
		}
	}
	link := []api.HeatLink{{A: 0, B: 1, Conductance: 8}}
	for i, c := range []struct {
		n              int
		links          []api.HeatLink
		ambient, limit int64
		budget         uint64
		ok             bool
	}{{8, nil, 20, 40, api.MaxPower, true}, {9, nil, 20, 40, 1, false}, {1, nil, 20, 19, 1, false}, {1, nil, 20, 40, api.MaxPower + 1, false}, {2, link, 20, 40, 1, true}, {1, link, 20, 40, 1, false}, {0, nil, 20, 0, 1, true}, {0, link, 20, 40, 1, false}} {
		_, e := NewThermal(slices.Repeat([]api.BoardDomain{d}, c.n), c.links, c.ambient, c.limit, c.budget)
		if (e == api.OK) != c.ok {
			t.Error(i, e)
		}
	}
	th, _ := NewThermal([]api.BoardDomain{d}, nil, 20, 40, 100)
	if th.SetLoad(1, 0) != api.ErrNotFound || th.SetLoad(-1, 500) != api.ErrNotFound || th.SetLoad(0, 101) != api.ErrInvalid || th.SetLoad(0, -1) != api.ErrInvalid || th.SetLoad(0, 100) != api.OK {
		t.Error("load")
	}
	empty, _ := NewThermal(nil, nil, 0, 0, 0)
	empty.Run(api.ModeRunning)
	if len(empty.Temperatures())+len(empty.Powers())+len(empty.Points()) != 0 {
		t.Error("no domains")
	}
}

// state compares temperatures, powers and points of two domains.
func state(t *testing.T, th *Thermal, temperatures, powers []int64, points []int) {
	t.Helper()
	if !slices.Equal(th.Temperatures(), temperatures) || !slices.Equal(th.Powers(), powers) || !slices.Equal(th.Points(), points) {
		t.Error(th.Temperatures(), th.Powers(), th.Points())
	}
}

// P44.2: runs.
func TestRun(t *testing.T) {
	d := boardDomain()
	th, _ := NewThermal([]api.BoardDomain{d, d}, nil, 20, 60, 70)
	state(t, th, []int64{20, 20}, []int64{0, 0}, []int{0, 0})
	th.SetLoad(0, 80)
	th.Run(api.ModeRunning) // asks for 60, the domain is granted 60 of the budget 70
	state(t, th, []int64{24, 20}, []int64{48, 0}, []int{2, 0})
	th.SetLoad(1, 100)
	th.Run(api.ModeRunning) // both are granted 35, which permits the second point
	state(t, th, []int64{26, 22}, []int64{20, 25}, []int{2, 2})
	th.SetLoad(1, 0)
	th.SetLoad(0, 100)
	th.Run(api.ModeRunning)
	state(t, th, []int64{30, 22}, []int64{60, 0}, []int{2, 0})
	th.Run(api.ModeRunning) // the zone is throttled by one level
	state(t, th, []int64{31, 21}, []int64{25, 0}, []int{1, 0})
	th.Run(api.ModeRunning)
	state(t, th, []int64{30, 21}, []int64{10, 0}, []int{0, 0})
	th.Restart()
	th.Run(api.ModeRunning)
	state(t, th, []int64{34, 21}, []int64{60, 0}, []int{2, 0})
	th.Run(api.ModeAsleep)
	state(t, th, []int64{31, 21}, []int64{0, 0}, []int{0, 0})
	th.Run(api.ModeOff)
	state(t, th, []int64{29, 20}, []int64{0, 0}, []int{0, 0})
}

// P44.2: limits of the board.
func TestLimits(t *testing.T) {
	d := boardDomain()
	d.Trips = nil
	th, _ := NewThermal([]api.BoardDomain{d}, nil, 20, 35, 1000)
	th.SetLoad(0, 100)
	for range 100 {
		th.Run(api.ModeRunning)
		if th.Temperatures()[0] > 35 || th.Powers()[0] != 25 {
			t.Fatal(th.Temperatures(), th.Powers())
		}
	}
	th, _ = NewThermal([]api.BoardDomain{d}, nil, 20, 35, 9)
	th.SetLoad(0, 100)
	th.Run(api.ModeRunning)
	if th.Powers()[0] != 0 {
		t.Error("no point is permitted")
	}
}
