package hotplug

import (
	"math/rand"
	"testing"

	"platformfw/allocate"
	"platformfw/api"
	"platformfw/enumerate"
	"platformfw/pciconf"
)

func randomBars(r *rand.Rand, most int) []api.Bar {
	var l []api.Bar
	for range r.Intn(most + 1) {
		switch r.Intn(4) {
		case 0:
			l = append(l, bar(api.BarIO, 2+r.Intn(7)))
		case 1:
			l = append(l, bar(api.BarMem32, 4+r.Intn(20)))
		case 2:
			l = append(l, bar(api.BarMem64+r.Intn(2), 4+r.Intn(24)), bar(0, 0))
		case 3:
			l = append(l, bar(0, 0))
		}
	}
	return l
}

// randomTopology returns functions with random parents among the bridges.
func randomTopology(r *rand.Rand, n int) []api.Function {
	var l []api.Function
	parents := []int{-1}
	for i := range n {
		f := fn(parents[r.Intn(len(parents))], i, randomBars(r, 3)...)
		if r.Intn(3) == 0 {
			f.Bridge, f.Pref64, f.Hotplug, f.Bars = true, r.Intn(2) == 0, r.Intn(2) == 0, nil
			parents = append(parents, i)
		}
		l = append(l, f)
	}
	return l
}

// decoded tests that the functions decode exactly the assigned ranges after the accesses that program them.
func decoded(t *testing.T, l []api.Function, a []api.Assignment) {
	t.Helper()
	devices := make([]*pciconf.Device, len(l))
	for i, f := range l {
		devices[i], _ = pciconf.New(f)
	}
	for _, op := range allocate.Writes(l, a) {
		devices[op.Function].Write(op.Offset, op.Width, op.Value)
	}
	at := 0
	for i, d := range devices {
		for _, w := range d.Windows() {
			if a[at].Need.Function != i || a[at].Need.Index != w.Index || a[at].Base != w.Range.Base {
				t.Fatal(i, w, a[at])
			}
			at++
		}
	}
	if at != len(a) {
		t.Fatal("ranges that are not decoded")
	}
}

// P23.2 to P23.4, for random boards and cards: what Plan returns is correct, is decoded, and nothing stops without need.
func TestRandomCards(t *testing.T) {
	h := host()
	h.High = []api.Range{{Base: 1 << 33, Len: 1 << 40}}
	planned := 0
	for seed := range int64(1500) {
		r := rand.New(rand.NewSource(seed))
		l := randomTopology(r, 1+r.Intn(16))
		a, _, e := allocate.Assign(l, h)
		if e != api.OK || !enumerate.Valid(l) {
			continue
		}
		decoded(t, l, a)
		for port, f := range l {
			if !f.Hotplug {
				continue
			}
			rest, left, index, _ := Remove(l, a, port)
			again, e := Add(rest, index[port], randomTopology(r, 1+r.Intn(4)))
			if e != api.OK {
				t.Fatal(e)
			}
			out, moves, _, e := Plan(again, h, left, len(rest))
			if e != api.OK {
				continue
			}
			planned++
			if !allocate.Check(again, h, out) {
				t.Fatal("incorrect assignments", seed)
			}
			decoded(t, again, out)
			stops, starts := 0, 0
			for _, m := range moves {
				switch m.Kind {
				case api.MoveStop:
					stops++
				case api.MoveStart:
					starts++
				}
			}
			if starts != stops+len(again)-len(rest) {
				t.Fatal("every stopped and new function is started once", seed)
			}
		}
	}
	if planned < 500 {
		t.Error(planned)
	}
}
