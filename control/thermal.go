// Package control is layer 44: thermal control, device power and sleep transitions.
package control

import (
	"slices"

	"platformfw/api"
	"platformfw/heat"
	"platformfw/perf"
	"platformfw/thermal"
)

const (
	mostDomains = 8
	fullLoad    = 100
)

// domain is a processor domain with its load and the state of its control. Highest is the highest point that its governor may choose.
type domain struct {
	points   []api.OperatingPoint
	params   api.GovernorParams
	trips    []api.Trip
	limit    uint64 // the greatest power that it may be granted
	load     int
	power    int64
	governor *perf.Governor
	zone     *thermal.Zone
	highest  int
}

// Thermal is the thermal control of the processor domains. Without domains there is no heat model.
type Thermal struct {
	domains []domain
	model   *heat.Model
	budget  uint64
}

// NewThermal returns a thermal control with all loads and powers 0.
func NewThermal(domains []api.BoardDomain, links []api.HeatLink, ambient, limit int64, budget uint64) (*Thermal, api.Errno) {
	if len(domains) > mostDomains || budget > api.MaxPower || len(domains) == 0 && len(links) > 0 {
		return nil, api.ErrInvalid
	}
	t := &Thermal{budget: budget}
	var heats []api.HeatDomain
	for _, b := range domains {
		sustainable, e := thermal.Sustainable(b.Heat, ambient, limit)
		if e != api.OK {
			return nil, api.ErrInvalid
		}
		d := domain{points: slices.Clone(b.Points), params: b.Governor, trips: slices.Clone(b.Trips), limit: min(api.MaxHeat, uint64(sustainable))}
		if !d.restart() {
			return nil, api.ErrInvalid
		}
		t.domains = append(t.domains, d)
		heats = append(heats, b.Heat)
	}
	if len(domains) > 0 {
		var e api.Errno
		if t.model, e = heat.New(heats, links, ambient); e != api.OK {
			return nil, api.ErrInvalid
		}
	}
	return t, api.OK
}

// restart replaces the governor and the zone of a domain, if its description is valid.
func (d *domain) restart() bool {
	governor, e1 := perf.New(d.points, d.params)
	zone, e2 := thermal.NewZone(d.trips, api.MaxPoints)
	if e1 != api.OK || e2 != api.OK {
		return false
	}
	d.governor, d.zone, d.highest = governor, zone, len(d.points)-1
	return true
}

// SetLoad sets the load of a domain in percent.
func (t *Thermal) SetLoad(domain, load int) api.Errno {
	if domain < 0 || domain >= len(t.domains) {
		return api.ErrNotFound
	}
	if load < 0 || load > fullLoad {
		return api.ErrInvalid
	}
	t.domains[domain].load = load
	return api.OK
}

// Restart replaces the governors and zones by new ones.
func (t *Thermal) Restart() {
	for i := range t.domains {
		t.domains[i].restart()
	}
}

// Run performs a run of the thermal control.
func (t *Thermal) Run(mode int) {
	if len(t.domains) == 0 {
		return
	}
	for i := range t.domains {
		t.domains[i].power = 0
	}
	if mode != api.ModeOff {
		t.grant(mode)
	}
	temperatures, e := t.model.Step(t.Powers())
	if e != api.OK || mode == api.ModeOff {
		return
	}
	for i, d := range t.domains {
		d.zone.Update(temperatures[i])
	}
}

// grant chooses the operating points and distributes the power.
func (t *Thermal) grant(mode int) {
	var actors []api.Actor
	for i := range t.domains {
		d := &t.domains[i]
		actors = append(actors, api.Actor{Request: d.request(d.effective(mode)), Max: d.limit})
	}
	grants, e := thermal.Allocate(t.budget, actors)
	if e != api.OK {
		return
	}
	for i := range t.domains {
		d := &t.domains[i]
		if p, e := thermal.Throttle(d.points, grants[i]); e == api.OK {
			d.power = int64(d.points[p].Power * uint64(d.effective(mode)) / fullLoad)
		}
	}
}

// effective returns the load that counts in a mode.
func (d *domain) effective(mode int) int {
	if mode != api.ModeRunning {
		return 0
	}
	return d.load
}

// request lets the governor process a load, and returns the power that the domain asks for.
func (d *domain) request(load int) uint64 {
	highest := max(0, len(d.points)-1-d.zone.Level())
	if highest != d.highest {
		d.governor.Limit(0, highest)
		d.highest = highest
	}
	point, e := d.governor.Sample(load)
	if e != api.OK || load == 0 {
		return 0
	}
	return d.points[point].Power
}

// Temperatures returns the temperatures of the heat model.
func (t *Thermal) Temperatures() []int64 {
	l := make([]int64, len(t.domains))
	for i := range l {
		l[i] = t.model.Temperature(i)
	}
	return l
}

// Powers returns the powers of the last run.
func (t *Thermal) Powers() []int64 {
	l := make([]int64, len(t.domains))
	for i := range l {
		l[i] = t.domains[i].power
	}
	return l
}

// Points returns the current points of the governors.
func (t *Thermal) Points() []int {
	l := make([]int, len(t.domains))
	for i := range l {
		l[i] = t.domains[i].governor.Current()
	}
	return l
}
