package interp

import (
	"platformfw/api"
	"platformfw/ec"
	"platformfw/field"
	"platformfw/value"
)

// units reads and writes the access units of a field.
type units interface {
	read(u int) (uint64, api.Errno)
	write(u int, v uint64) api.Errno
}

// direct accesses the units of a field in memory or ports.
type direct struct {
	m    *Machine
	spec api.FieldSpec
}

func (d direct) access(u int, write bool, v uint64) (uint64, api.Errno) {
	addr := d.spec.Region.Base + uint64(u*d.spec.Width)
	return d.m.bus.Access(api.Access{Space: d.spec.Region.Space, Addr: addr, Width: d.spec.Width, Write: write, Value: v})
}

func (d direct) read(u int) (uint64, api.Errno) { return d.access(u, false, 0) }

func (d direct) write(u int, v uint64) api.Errno {
	_, e := d.access(u, true, v)
	return e
}

// indexed accesses the units of a field through an index field and a data field.
type indexed struct {
	m           *Machine
	width       int
	index, data api.FieldSpec
}

// choose writes the position of a unit to the index field.
func (x indexed) choose(u int) api.Errno {
	return writeField(x.index, integer(uint64(u*x.width)), direct{x.m, x.index})
}

func (x indexed) read(u int) (uint64, api.Errno) {
	if e := x.choose(u); e != api.OK {
		return 0, e
	}
	v, e := readField(x.data, direct{x.m, x.data})
	if e != api.OK {
		return 0, e
	}
	n, e := value.Integer(v)
	return n & (^uint64(0) >> (64 - 8*x.width)), e
}

func (x indexed) write(u int, v uint64) api.Errno {
	if e := x.choose(u); e != api.OK {
		return e
	}
	return writeField(x.data, integer(v), direct{x.m, x.data})
}

// readField reads the value of a field.
func readField(spec api.FieldSpec, io units) (api.Value, api.Errno) {
	first, n := field.Units(spec)
	var l []uint64
	for u := first; u < first+n; u++ {
		v, e := io.read(u)
		if e != api.OK {
			return api.Value{}, e
		}
		l = append(l, v)
	}
	return field.ToValue(spec, field.Extract(spec, l)), api.OK
}

// writeField writes a value to a field, unit by unit.
func writeField(spec api.FieldSpec, v api.Value, io units) api.Errno {
	bits, e := field.FromValue(spec, v)
	if e != api.OK {
		return e
	}
	first, n := field.Units(spec)
	reads := field.ReadsBeforeWrite(spec)
	old := make([]uint64, n)
	for i := range n {
		if reads[i] {
			if old[i], e = io.read(first + i); e != api.OK {
				return e
			}
		}
		if e := io.write(first+i, field.Insert(spec, bits, old)[i]); e != api.OK {
			return e
		}
	}
	return api.OK
}

// unitsOf returns how the units of a field outside the embedded controller are accessed.
func (m *Machine) unitsOf(spec api.FieldSpec) (units, api.Errno) {
	if spec.Index < 0 {
		return direct{m, spec}, api.OK
	}
	index, ok := m.space.Field(spec.Index)
	data, also := m.space.Field(spec.Data)
	if !ok || !also {
		return nil, api.ErrNotFound
	}
	for _, part := range []api.FieldSpec{index, data} {
		if part.Index >= 0 || part.Region.Space == api.SpaceEC {
			return nil, api.ErrType
		}
	}
	return indexed{m: m, width: spec.Width, index: index, data: data}, api.OK
}

// loadField pushes the value of a field.
func (m *Machine) loadField(t *thread, id int, now uint64) api.Errno {
	spec, _ := m.space.Field(id)
	if spec.Region.Space == api.SpaceEC {
		m.beginAccess(t, spec, false, "", now)
		return api.OK
	}
	io, e := m.unitsOf(spec)
	if e != api.OK {
		return e
	}
	return t.pushed(readField(spec, io))
}

// storeField writes a value to a field.
func (m *Machine) storeField(t *thread, id int, v api.Value, now uint64) api.Errno {
	spec, _ := m.space.Field(id)
	if spec.Region.Space == api.SpaceEC {
		bits, e := field.FromValue(spec, v)
		if e == api.OK {
			m.beginAccess(t, spec, true, bits, now)
		}
		return e
	}
	io, e := m.unitsOf(spec)
	if e != api.OK {
		return e
	}
	return writeField(spec, v, io)
}

// access is an access to a field of the embedded controller: the values of its units so far, the current unit, and whether the transaction writes it.
type access struct {
	spec    api.FieldSpec
	write   bool
	bits    string
	reads   []bool
	values  []uint64
	unit    int
	writing bool
	step    *ec.Transaction
}

// beginAccess starts the first transaction of an access.
func (m *Machine) beginAccess(t *thread, spec api.FieldSpec, write bool, bits string, now uint64) {
	reads := field.ReadsBeforeWrite(spec)
	a := &access{spec: spec, write: write, bits: bits, reads: reads, values: make([]uint64, len(reads))}
	a.begin(now)
	t.access = a
	t.block(pendingAccess)
}

// begin starts the first transaction of the current unit.
func (a *access) begin(now uint64) {
	a.writing = a.write && !a.reads[a.unit]
	a.start(now)
}

// start starts the transaction of the current unit.
func (a *access) start(now uint64) {
	first, _ := field.Units(a.spec)
	addr := byte(a.spec.Region.Base + uint64(first+a.unit))
	if a.writing {
		v := field.Insert(a.spec, a.bits, a.values)[a.unit]
		a.step = ec.Write(addr, byte(v), now, api.ECTimeout)
		return
	}
	a.step = ec.Read(addr, now, api.ECTimeout)
}

// next notes the result of a transaction, and starts the next one unless the access is complete.
func (a *access) next(v byte, now uint64) bool {
	if !a.writing {
		a.values[a.unit] = uint64(v)
		if a.write {
			a.writing = true
			a.start(now)
			return true
		}
	}
	a.unit++
	if a.unit == len(a.values) {
		return false
	}
	a.begin(now)
	return true
}

// continueAccess continues the transaction of a thread.
func (m *Machine) continueAccess(t *thread, now uint64) api.Errno {
	a := t.access
	v, done, e := a.step.Step(m.control, now)
	if e != api.OK {
		return e
	}
	t.status = api.ThreadBlocked
	if !done || a.next(v, now) {
		return api.OK
	}
	t.access = nil
	t.pending = pendingNothing
	t.status = api.ThreadRunning
	if !a.write {
		t.push(field.ToValue(a.spec, field.Extract(a.spec, a.values)))
	}
	return api.OK
}
