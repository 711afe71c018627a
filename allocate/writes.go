package allocate

import (
	"platformfw/api"
	"platformfw/enumerate"
	"platformfw/resources"
)

// Offsets and bits of the registers that hold assignments.
const (
	regCommand    = 0x04
	regBar        = 0x10
	regIO         = 0x1C
	regMem        = 0x20
	regPref       = 0x24
	regPrefHigh   = 0x28
	commandIO     = 1
	commandMemory = 2
	commandMaster = 4
)

// Writes returns the configuration accesses that program the assignments.
func Writes(l []api.Function, a []api.Assignment) []api.ConfigOp {
	if !enumerate.Valid(l) || !describes(l, a) {
		return nil
	}
	w := writer{functions: l}
	at := 0
	for i := range l {
		first := at
		for at < len(a) && a[at].Need.Function == i {
			at++
		}
		w.function(i, a[first:at])
	}
	return w.ops
}

// describes tells whether the assignments are for the needs of a topology, with or without high memory.
func describes(l []api.Function, a []api.Assignment) bool {
	for _, high := range []bool{false, true} {
		if needs, e := resources.Needs(l, high); e == api.OK && serves(a, needs) {
			return true
		}
	}
	return false
}

// writer collects configuration accesses.
type writer struct {
	functions []api.Function
	ops       []api.ConfigOp
}

func (w *writer) put(function, offset, width int, v uint64) {
	w.ops = append(w.ops, api.ConfigOp{Function: function, Offset: offset, Width: width, Write: true, Value: v})
}

// function programs the assignments of a function.
func (w *writer) function(i int, a []api.Assignment) {
	f := w.functions[i]
	command := uint64(0)
	windows := map[int]api.Assignment{}
	for _, x := range a {
		if x.Need.Class == api.ClassIO {
			command |= commandIO
		} else {
			command |= commandMemory
		}
		if x.Need.Index < 0 {
			windows[x.Need.Class] = x
			continue
		}
		offset := regBar + 4*x.Need.Index
		w.put(i, offset, 4, x.Base&(1<<32-1))
		if kind := f.Bars[x.Need.Index].Kind; kind == api.BarMem64 || kind == api.BarPref64 {
			w.put(i, offset+4, 4, x.Base>>32)
		}
	}
	if f.Bridge {
		command |= commandMaster
		for class := range api.Classes {
			x, ok := windows[class]
			w.window(i, class, x, ok)
		}
	}
	w.put(i, regCommand, 2, command)
}

// window programs a window of a bridge; a window that does not exist gets a first address above the last one.
func (w *writer) window(i, class int, x api.Assignment, exists bool) {
	first, last := ^uint64(0), uint64(0)
	if exists {
		first, last = x.Base, x.Base+(1<<x.Need.Size-1)
	}
	switch {
	case class == api.ClassIO:
		w.put(i, regIO, 1, first>>8&0xF0)
		w.put(i, regIO+1, 1, last>>8&0xF0)
	case class == api.ClassMem:
		w.put(i, regMem, 2, first>>16&0xFFF0)
		w.put(i, regMem+2, 2, last>>16&0xFFF0)
	case w.functions[i].Pref64:
		w.put(i, regPref, 2, first>>16&0xFFF0)
		w.put(i, regPref+2, 2, last>>16&0xFFF0)
		w.put(i, regPrefHigh, 4, first>>32)
		w.put(i, regPrefHigh+4, 4, last>>32)
	}
}
