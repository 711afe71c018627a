package thermal

import (
	"slices"
	"testing"

	"platformfw/api"
)

func trip(kind int, temperature, hysteresis int64) api.Trip {
	return api.Trip{Kind: kind, Temperature: temperature, Hysteresis: hysteresis}
}

const big = api.MaxHeat

// P39.1: trip points and zones.
func TestTrips(t *testing.T) {
	for i, c := range []struct {
		trips []api.Trip
		ok    bool
	}{{nil, true}, {[]api.Trip{trip(1, 4*big, big), trip(3, -4*big, 0)}, true}, {slices.Repeat([]api.Trip{trip(1, 0, 0)}, 12), true}, {slices.Repeat([]api.Trip{trip(1, 0, 0)}, 13), false}, {[]api.Trip{trip(0, 0, 0)}, false}, {[]api.Trip{trip(4, 0, 0)}, false}, {[]api.Trip{trip(1, 4*big+1, 0)}, false}, {[]api.Trip{trip(1, -4*big-1, 0)}, false}, {[]api.Trip{trip(1, 0, -1)}, false}, {[]api.Trip{trip(1, 0, big+1)}, false}} {
		z, e := NewZone(c.trips, 64)
		if (CheckTrips(c.trips) == api.OK) != c.ok || (e == api.OK) != c.ok || (z != nil) != c.ok {
			t.Error(i)
		}
	}
	for _, levels := range []int{-1, 65} {
		if z, e := NewZone(nil, levels); z != nil || e != api.ErrInvalid {
			t.Error(levels)
		}
	}
}

// P39.2: updates.
func TestUpdate(t *testing.T) {
	z, _ := NewZone([]api.Trip{trip(api.TripPassive, 50, 5), trip(api.TripCritical, 60, 0), trip(api.TripActive, 40, 10)}, 2)
	if z.Level() != 0 || !slices.Equal(z.Active(), []bool{false, false, false}) {
		t.Error("initial")
	}
	for i, c := range []struct {
		temperature int64
		level       int
		critical    bool
		active      []bool
	}{{49, 0, false, []bool{false, false, true}}, {50, 1, false, []bool{true, false, true}}, {45, 2, false, []bool{true, false, true}}, {60, 2, true, []bool{true, true, true}}, {44, 1, false, []bool{false, false, true}}, {59, 2, false, []bool{true, false, true}}, {30, 1, false, []bool{false, false, true}}, {29, 0, false, []bool{false, false, false}}, {-8 * big, 0, false, []bool{false, false, false}}, {8 * big, 1, true, []bool{true, true, true}}} {
		level, critical, e := z.Update(c.temperature)
		if level != c.level || z.Level() != level || critical != c.critical || e != api.OK || !slices.Equal(z.Active(), c.active) {
			t.Error(i, level, critical, z.Active())
		}
	}
	for _, temperature := range []int64{8*big + 1, -8*big - 1} {
		if level, critical, e := z.Update(temperature); level != 0 || critical || e != api.ErrInvalid || z.Level() != 1 {
			t.Error(e)
		}
	}
	z.Active()[0] = false
	if !z.Active()[0] {
		t.Error("memory shared")
	}
}

func actor(request, least, most uint64) api.Actor {
	return api.Actor{Request: request, Min: least, Max: most}
}

// P39.3 and P39.4: distribution.
func TestAllocate(t *testing.T) {
	three := []api.Actor{actor(9, 0, 9), actor(1, 0, 9), actor(9, 2, 9)}
	const top = api.MaxPower
	for i, c := range []struct {
		budget uint64
		actors []api.Actor
		want   []uint64
		e      api.Errno
	}{
		{10, three, []uint64{5, 1, 4}, 0}, {19, three, []uint64{9, 1, 9}, 0}, {99, three, []uint64{9, 1, 9}, 0}, {18, three, []uint64{9, 1, 8}, 0}, {2, three, []uint64{0, 0, 2}, 0}, {3, three, []uint64{1, 0, 2}, 0}, {1, three, nil, api.ErrNoSpace}, {0, nil, nil, 0}, {5, []api.Actor{actor(0, 3, 9), actor(99, 1, 9)}, []uint64{3, 2}, 0}, {7, []api.Actor{actor(50, 0, 4)}, []uint64{4}, 0},
		{top + 1, []api.Actor{actor(1<<63, 0, top), actor(1<<63, 0, top)}, []uint64{top/2 + 1, top / 2}, 0}, {2*top - 1, []api.Actor{actor(top, 0, top), actor(top, 0, top)}, []uint64{top, top - 1}, 0}, {9, []api.Actor{actor(1, 5, 4)}, nil, api.ErrInvalid}, {9, []api.Actor{actor(1, 0, top+1)}, nil, api.ErrInvalid}, {9, make([]api.Actor, 33), nil, api.ErrInvalid}, {9, make([]api.Actor, 32), make([]uint64, 32), 0},
	} {
		got, e := Allocate(c.budget, c.actors)
		if !slices.Equal(got, c.want) || e != c.e || e == api.OK && !Fair(c.budget, c.actors, got) {
			t.Error(i, got, e)
		}
	}
	for i, c := range []struct {
		grants []uint64
		want   bool
	}{{[]uint64{5, 1, 4}, true}, {[]uint64{4, 1, 5}, true}, {[]uint64{6, 1, 3}, false}, {[]uint64{4, 1, 4}, false}, {[]uint64{5, 1, 5}, false}, {[]uint64{5, 0, 5}, false}, {[]uint64{8, 1, 1}, false}, {[]uint64{5, 2, 3}, false}, {[]uint64{5, 5}, false}} {
		if Fair(10, three, c.grants) != c.want {
			t.Error(i)
		}
	}
	if Fair(9, []api.Actor{actor(1, 5, 4)}, []uint64{4}) {
		t.Error("invalid actors")
	}
}

// P39.3: Allocate is fair for many small problems.
func TestAllocateFair(t *testing.T) {
	for n := range 3000 {
		a := []api.Actor{actor(uint64(n%7), uint64(n%3), uint64(n%3+n%5)), actor(uint64(n%11), uint64(n%2), uint64(n%2+n%9)), actor(uint64(n%13), 0, uint64(n%6))}
		budget := uint64(n % 17)
		got, e := Allocate(budget, a)
		if e == api.OK && !Fair(budget, a, got) || e != api.OK && a[0].Min+a[1].Min <= budget {
			t.Fatal(n, got, e)
		}
	}
}

// P39.5 and P39.6: sustainable power and throttling.
func TestSustainableThrottle(t *testing.T) {
	d := api.HeatDomain{Capacity: 10, Ambient: 2}
	for i, c := range []struct {
		d              api.HeatDomain
		ambient, limit int64
		want           int64
		e              api.Errno
	}{{d, 20, 40, 40, 0}, {d, 20, 20, 0, 0}, {d, -big, 2 * big, 6 * big, 0}, {d, 20, 19, 0, api.ErrInvalid}, {d, 20, 2*big + 1, 0, api.ErrInvalid}, {api.HeatDomain{Capacity: 1, Ambient: 2}, 20, 40, 0, api.ErrInvalid}, {d, big + 1, big + 2, 0, api.ErrInvalid}} {
		if got, e := Sustainable(c.d, c.ambient, c.limit); got != c.want || e != c.e {
			t.Error(i, got, e)
		}
	}
	table := []api.OperatingPoint{{Frequency: 1, Power: 5}, {Frequency: 2, Power: 5}, {Frequency: 3, Power: 9}}
	for granted, want := range map[uint64]int{5: 1, 8: 1, 9: 2, 1 << 63: 2} {
		if got, e := Throttle(table, granted); got != want || e != api.OK {
			t.Error(granted, got, e)
		}
	}
	if got, e := Throttle(table, 4); got != 0 || e != api.ErrNotFound {
		t.Error(e)
	}
	if _, e := Throttle(nil, 4); e != api.ErrInvalid {
		t.Error(e)
	}
}
