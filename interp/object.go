package interp

import (
	"platformfw/api"
	"platformfw/devinfo"
	"platformfw/tree"
	"platformfw/value"
)

// What a reference denotes.
const (
	refObject = iota
	refLocal
	refArg
	refElement
	refByte
)

// reference denotes an object, a variable of a frame, an element of a package, or a byte, whose value index then is. Owner is the object, frame or package.
type reference struct {
	kind  int
	owner int
	index uint64
}

// typeBase is added to the operator of an object to get its type.
const typeBase = 100

// resolve returns the object that a name denotes in the current frame of a thread.
func (m *Machine) resolve(t *thread, name string) (int, api.Object, api.Errno) {
	id, ok := m.space.Lookup(t.current().code.path, name)
	if !ok {
		return 0, api.Object{}, api.ErrNotFound
	}
	o, _ := m.space.Object(id)
	return id, o, api.OK
}

// named returns the object that a name denotes as a value.
func (m *Machine) named(t *thread, name string) api.Value {
	id, ok := m.space.Lookup(t.current().code.path, name)
	if !ok {
		return api.Value{}
	}
	return api.Value{Kind: api.ValObject, Obj: id}
}

// newPackage creates a package.
func (m *Machine) newPackage(elements []api.Value) (api.Value, api.Errno) {
	if len(m.packs) >= api.MaxCells {
		return api.Value{}, api.ErrFull
	}
	m.packs = append(m.packs, elements)
	return api.Value{Kind: api.ValPackage, Obj: len(m.packs)}, api.OK
}

func (m *Machine) newReference(r reference) (api.Value, api.Errno) {
	if len(m.refs) >= api.MaxCells {
		return api.Value{}, api.ErrFull
	}
	m.refs = append(m.refs, r)
	return api.Value{Kind: api.ValReference, Obj: len(m.refs)}, api.OK
}

// makePackage creates a package from values on the stack of a thread.
func (m *Machine) makePackage(t *thread, n uint64) api.Errno {
	elements := make([]api.Value, n/256)
	copy(elements, t.popAll(int(n%256)))
	return t.pushed(m.newPackage(elements))
}

// copyOf returns a new package with the same elements for a package, and any other value itself.
func (m *Machine) copyOf(v api.Value) (api.Value, api.Errno) {
	if v.Kind != api.ValPackage {
		return v, api.OK
	}
	return m.newPackage(append([]api.Value(nil), m.packs[v.Obj-1]...))
}

// assign lets a variable become a copy of a value.
func (m *Machine) assign(to *api.Value, v api.Value) api.Errno {
	c, e := m.copyOf(v)
	if e == api.OK {
		*to = c
	}
	return e
}

// current returns the value of a name declaration; a package is created when it is first needed.
func (m *Machine) current(id int, o api.Object) (api.Value, api.Errno) {
	if v, ok := m.values[id]; ok {
		return v, api.OK
	}
	d := m.declared(o)
	if d.nodes[d.at].Op != api.OpPackage {
		l, e := devinfo.Data(m.space, id)
		if e != api.OK {
			return api.Value{}, e
		}
		m.values[id] = l[0]
		return l[0], api.OK
	}
	if len(m.packs)+d.count(d.at) > api.MaxCells {
		return api.Value{}, api.ErrFull
	}
	v := m.build(d, d.at)
	m.values[id] = v
	return v, api.OK
}

// declaration is the data of a name declaration: its node, and the scope of its names.
type declaration struct {
	nodes []api.Node
	ends  []int
	at    int
	scope string
}

func (m *Machine) declared(o api.Object) declaration {
	parent, _ := m.space.Object(o.Parent)
	p := m.space.Program(o.Table)
	return declaration{nodes: p, ends: tree.Ends(p), at: o.Node + 2, scope: parent.Path}
}

// count returns the number of packages in the subtree of a node.
func (d declaration) count(at int) int {
	n := 0
	for i := at; i < d.ends[at]; i++ {
		if d.nodes[i].Op == api.OpPackage {
			n++
		}
	}
	return n
}

// build creates a declared package, and then those nested in it.
func (m *Machine) build(d declaration, at int) api.Value {
	kids := tree.Kids(d.nodes, d.ends, at)
	elements := make([]api.Value, d.nodes[kids[0]].Int)
	v, _ := m.newPackage(elements)
	for i, kid := range tree.Kids(d.nodes, d.ends, kids[1]) {
		elements[i] = m.element(d, kid)
	}
	return v
}

// element returns the value of an element of a declared package.
func (m *Machine) element(d declaration, at int) api.Value {
	switch n := d.nodes[at]; n.Op {
	case api.OpInt:
		return integer(n.Int)
	case api.OpString:
		return api.Value{Kind: api.ValString, Str: n.Str}
	case api.OpBuffer:
		kids := tree.Kids(d.nodes, d.ends, at)
		bytes := make([]byte, d.nodes[kids[0]].Int)
		for i, kid := range tree.Kids(d.nodes, d.ends, kids[1]) {
			bytes[i] = byte(d.nodes[kid].Int)
		}
		return api.Value{Kind: api.ValBuffer, Str: string(bytes)}
	case api.OpPackage:
		return m.build(d, at)
	case api.OpName:
		if id, ok := m.space.Lookup(d.scope, n.Str); ok {
			return api.Value{Kind: api.ValObject, Obj: id}
		}
	}
	return api.Value{}
}

// load pushes what an object contains; a field of the embedded controller takes further steps.
func (m *Machine) load(t *thread, id int, now uint64) api.Errno {
	o, ok := m.space.Object(id)
	if !ok {
		return api.ErrNotFound
	}
	switch o.Op {
	case api.OpNameDecl:
		return t.pushed(m.current(id, o))
	case api.OpUnit:
		return m.loadField(t, id, now)
	}
	t.push(api.Value{Kind: api.ValObject, Obj: id})
	return api.OK
}

// store stores a value into an object.
func (m *Machine) store(t *thread, id int, v api.Value, now uint64) api.Errno {
	o, ok := m.space.Object(id)
	switch {
	case !ok:
		return api.ErrNotFound
	case o.Op == api.OpUnit:
		return m.storeField(t, id, v, now)
	case o.Op != api.OpNameDecl:
		return api.ErrType
	}
	old, e := m.current(id, o)
	if e != api.OK {
		return e
	}
	if old.Kind == api.ValPackage {
		if v.Kind != api.ValPackage {
			return api.ErrType
		}
		v, e = m.copyOf(v)
	} else {
		v, e = value.Convert(v, old.Kind)
	}
	if e == api.OK {
		m.values[id] = v
	}
	return e
}

// typeOf returns the type of a value as an integer.
func (m *Machine) typeOf(v api.Value) (api.Value, api.Errno) {
	if v.Kind != api.ValObject {
		return integer(uint64(v.Kind)), api.OK
	}
	o, ok := m.space.Object(v.Obj)
	if !ok {
		return api.Value{}, api.ErrNotFound
	}
	return integer(uint64(typeBase + o.Op)), api.OK
}

// objectType returns the type of an object, without creating a package.
func (m *Machine) objectType(id int, o api.Object) int {
	if o.Op != api.OpNameDecl {
		return typeBase + o.Op
	}
	d := m.declared(o)
	if d.nodes[d.at].Op == api.OpPackage {
		return api.ValPackage
	}
	v, _ := m.current(id, o)
	return v.Kind
}

// index returns a reference to an element or a byte of a container.
func (m *Machine) index(container, at api.Value) (api.Value, api.Errno) {
	n, e := value.Integer(at)
	if e != api.OK {
		return api.Value{}, e
	}
	switch container.Kind {
	case api.ValPackage:
		if n >= uint64(len(m.packs[container.Obj-1])) {
			return api.Value{}, api.ErrOverflow
		}
		return m.newReference(reference{kind: refElement, owner: container.Obj, index: n})
	case api.ValString, api.ValBuffer:
		if n >= uint64(len(container.Str)) {
			return api.Value{}, api.ErrOverflow
		}
		return m.newReference(reference{kind: refByte, index: uint64(container.Str[n])})
	}
	return api.Value{}, api.ErrType
}

// variable returns the variable or element that a reference denotes.
func (m *Machine) variable(r reference) (*api.Value, api.Errno) {
	if r.kind == refElement {
		return &m.packs[r.owner-1][r.index], api.OK
	}
	f, ok := m.frames[r.owner]
	if !ok {
		return nil, api.ErrNotFound
	}
	if r.kind == refLocal {
		return &f.locals[r.index], api.OK
	}
	return &f.args[r.index], api.OK
}

// dereference pushes what a reference denotes.
func (m *Machine) dereference(t *thread, v api.Value, now uint64) api.Errno {
	if v.Kind != api.ValReference {
		return api.ErrType
	}
	r := m.refs[v.Obj-1]
	switch r.kind {
	case refObject:
		return m.load(t, r.owner, now)
	case refByte:
		t.push(integer(r.index))
		return api.OK
	}
	from, e := m.variable(r)
	if e == api.OK {
		t.push(*from)
	}
	return e
}

// storeReference stores a value into what a reference denotes.
func (m *Machine) storeReference(t *thread, ref, v api.Value, now uint64) api.Errno {
	if ref.Kind != api.ValReference {
		return api.ErrType
	}
	r := m.refs[ref.Obj-1]
	switch r.kind {
	case refObject:
		return m.store(t, r.owner, v, now)
	case refByte:
		return api.ErrType
	}
	to, e := m.variable(r)
	if e != api.OK {
		return e
	}
	return m.assign(to, v)
}
