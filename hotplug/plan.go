package hotplug

import (
	"slices"

	"platformfw/allocate"
	"platformfw/api"
	"platformfw/enumerate"
	"platformfw/resources"
)

// Plan assigns addresses to the functions of a topology with indices of at least n, and returns the steps to take.
func Plan(l []api.Function, h api.Host, a []api.Assignment, n int) ([]api.Assignment, []api.Move, api.Certificate, api.Errno) {
	if !enumerate.Valid(l) || !allocate.ValidHost(h) || n < 0 || n > len(l) || !belowPorts(l, n) {
		return nil, nil, api.Certificate{}, api.ErrInvalid
	}
	needs, e := resources.Needs(l, len(h.High) > 0)
	if e != api.OK {
		return nil, nil, api.Certificate{}, e
	}
	if allocate.Check(l[:n], h, a) {
		x := extension{functions: l, needs: needs, first: n, ranges: map[spot]api.Range{}}
		if out, ok := x.extend(a); ok {
			return out, moves(l, n, out, nil), api.Certificate{}, api.OK
		}
	}
	out, c, e := allocate.Assign(l, h)
	if e != api.OK {
		return nil, nil, c, e
	}
	return out, moves(l, n, out, affected(a, out, n)), api.Certificate{}, api.OK
}

// belowPorts tells whether all new functions are below hot-plug ports.
func belowPorts(l []api.Function, n int) bool {
	for _, f := range l[n:] {
		if f.Parent < n && !isPort(l, f.Parent) {
			return false
		}
	}
	return true
}

// spot identifies a need by its function and index.
type spot struct{ function, index int }

// extension adds assignments for the functions from first on, and leaves the others as they are.
type extension struct {
	functions []api.Function
	needs     []api.Need
	first     int
	ranges    map[spot]api.Range
}

// extend returns the assignments of all needs, or false if they cannot be extended.
func (x *extension) extend(a []api.Assignment) ([]api.Assignment, bool) {
	for _, old := range a {
		if !slices.Contains(x.needs, old.Need) {
			return nil, false
		}
		x.ranges[spot{old.Need.Function, old.Need.Index}] = api.Range{Base: old.Base, Len: 1 << old.Need.Size}
	}
	for i, f := range x.functions {
		if (i >= x.first || f.Hotplug) && !x.fill(i) {
			return nil, false
		}
	}
	out := make([]api.Assignment, len(x.needs))
	for i, n := range x.needs {
		r, ok := x.ranges[spot{n.Function, n.Index}]
		if !ok {
			return nil, false
		}
		out[i] = api.Assignment{Need: n, Base: r.Base}
	}
	return out, true
}

// fill places the needs of the new functions below a bridge into its windows.
func (x *extension) fill(bridge int) bool {
	for class := range api.Classes {
		var added []api.Need
		var sizes []int
		var taken []api.Range
		for _, n := range resources.Below(x.functions, x.needs, bridge, class) {
			if n.Function >= x.first {
				added = append(added, n)
				sizes = append(sizes, n.Size)
			} else if r, ok := x.ranges[spot{n.Function, n.Index}]; ok {
				taken = append(taken, r)
			}
		}
		if len(added) == 0 {
			continue
		}
		window, ok := x.ranges[spot{bridge, -1 - class}]
		if !ok {
			return false
		}
		bases, _, e := allocate.Place(allocate.Free([]api.Range{window}, taken), sizes)
		if e != api.OK {
			return false
		}
		for i, n := range added {
			x.ranges[spot{n.Function, n.Index}] = api.Range{Base: bases[i], Len: 1 << n.Size}
		}
	}
	return true
}

// ofFunction returns the assignments of a function, in their order.
func ofFunction(a []api.Assignment, function int) []api.Assignment {
	var l []api.Assignment
	for _, x := range a {
		if x.Need.Function == function {
			l = append(l, x)
		}
	}
	return l
}

// affected returns the functions below n whose assignments change.
func affected(old, now []api.Assignment, n int) []int {
	var l []int
	for i := range n {
		if !slices.Equal(ofFunction(old, i), ofFunction(now, i)) {
			l = append(l, i)
		}
	}
	return l
}

// moves returns the steps for assignments that affect some functions, besides the new ones.
func moves(l []api.Function, n int, a []api.Assignment, affected []int) []api.Move {
	var list []api.Move
	for i := len(affected) - 1; i >= 0; i-- {
		list = append(list, api.Move{Kind: api.MoveStop, Function: affected[i]})
	}
	for _, x := range a {
		if f := x.Need.Function; f >= n || slices.Contains(affected, f) {
			list = append(list, api.Move{Kind: api.MoveWrite, Function: f, Index: x.Need.Index, Base: x.Base})
		}
	}
	for _, f := range affected {
		list = append(list, api.Move{Kind: api.MoveStart, Function: f})
	}
	for f := n; f < len(l); f++ {
		list = append(list, api.Move{Kind: api.MoveStart, Function: f})
	}
	return list
}
