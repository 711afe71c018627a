package namespace

import (
	"slices"

	"platformfw/api"
	"platformfw/check"
	"platformfw/field"
	"platformfw/nspath"
	"platformfw/syntax"
	"platformfw/tree"
)

// Load adds the objects that a program declares, and returns the number of the table.
func (n *Space) Load(p []api.Node) (int, api.Errno) {
	if !acceptable(p) {
		return 0, api.ErrInvalid
	}
	if len(n.tables) >= api.MaxTables {
		return 0, api.ErrFull
	}
	l := &loader{space: n, nodes: p, ends: tree.Ends(p), number: n.loads + 1, units: map[int]int{}}
	first := n.next
	e := l.declareAll(l.top(), api.Path{Root: true})
	for i := 0; e == api.OK && i < len(l.fields); i++ {
		e = l.resolve(l.fields[i])
	}
	if e != api.OK {
		n.remove(l.objects)
		n.next = first
		return 0, e
	}
	n.loads++
	n.tables[l.number] = &table{program: slices.Clone(p), objects: l.objects, refers: l.refers}
	return l.number, api.OK
}

// acceptable tells whether a program may be loaded; its fields may refer to other tables.
func acceptable(p []api.Node) bool {
	if !syntax.Valid(p) {
		return false
	}
	for _, d := range check.Check(p) {
		if d.Code != api.DiagRegion {
			return false
		}
	}
	return true
}

// fieldNode is a field declaration in a scope.
type fieldNode struct {
	at    int
	scope api.Path
}

// loader adds the objects of a program.
type loader struct {
	space   *Space
	nodes   []api.Node
	ends    []int
	number  int
	objects []int
	refers  []int
	fields  []fieldNode
	units   map[int]int // the objects of field elements by their nodes
}

// top returns the declarations of the program.
func (l *loader) top() []int {
	var list []int
	for at := 0; at < len(l.nodes); at = l.ends[at] {
		list = append(list, at)
	}
	return list
}

func (l *loader) kids(at int) []int { return tree.Kids(l.nodes, l.ends, at) }

// body returns the elements of the block that is the last child of a node.
func (l *loader) body(at int) []int {
	kids := l.kids(at)
	return l.kids(kids[len(kids)-1])
}

// join returns the path that the name of a node denotes in a scope.
func (l *loader) join(at int, scope api.Path) api.Path {
	p, _ := nspath.Parse(l.nodes[at+1].Str)
	q, _ := nspath.Join(scope, p)
	return q
}

func (l *loader) declareAll(list []int, scope api.Path) api.Errno {
	for _, at := range list {
		if e := l.declare(at, scope); e != api.OK {
			return e
		}
	}
	return api.OK
}

// declare adds the objects that a declaration or a field element declares.
func (l *loader) declare(at int, scope api.Path) api.Errno {
	switch l.nodes[at].Op {
	case api.OpSkip:
		return api.OK
	case api.OpScope:
		path := l.join(at, scope)
		if id, ok := l.space.paths[nspath.Format(path)]; !ok || !l.space.holds(id) {
			return api.ErrNotFound
		}
		return l.declareAll(l.body(at), path)
	case api.OpField, api.OpIndexField:
		l.fields = append(l.fields, fieldNode{at, scope})
		return l.declareAll(l.body(at), scope)
	}
	path := l.join(at, scope)
	if e := l.create(at, path); e != api.OK {
		return e
	}
	switch l.nodes[at].Op {
	case api.OpDevice, api.OpPowerResource:
		return l.declareAll(l.body(at), path)
	}
	return api.OK
}

// holds tells whether an object may have children.
func (n *Space) holds(id int) bool {
	switch n.objects[id].info.Op {
	case api.OpScope, api.OpDevice, api.OpPowerResource:
		return true
	}
	return false
}

func (l *loader) create(at int, path api.Path) api.Errno {
	text := nspath.Format(path)
	if _, ok := l.space.paths[text]; ok {
		return api.ErrDuplicate
	}
	up, _ := nspath.Parent(path)
	parent, ok := l.space.paths[nspath.Format(up)]
	if !ok || !l.space.holds(parent) {
		return api.ErrNotFound
	}
	if len(l.space.objects) >= api.MaxObjects {
		return api.ErrFull
	}
	id := l.space.add(api.Object{Path: text, Op: l.nodes[at].Op, Parent: parent, Table: l.number, Node: at})
	l.objects = append(l.objects, id)
	l.units[at] = id
	return api.OK
}

// find returns the object that a name node of a field declaration denotes, if it has the operator.
func (l *loader) find(f fieldNode, node, op int) (int, bool) {
	id, ok := l.space.Lookup(nspath.Format(f.scope), l.nodes[node].Str)
	if !ok || l.space.objects[id].info.Op != op {
		return 0, false
	}
	l.refers = append(l.refers, id)
	return id, true
}

// resolve determines the specifications of the elements of a field declaration.
func (l *loader) resolve(f fieldNode) api.Errno {
	kids := l.kids(f.at)
	spec := api.FieldSpec{Index: -1, Data: -1}
	numbers := kids[1:]
	if l.nodes[f.at].Op == api.OpField {
		region, ok := l.find(f, kids[0], api.OpRegion)
		if !ok {
			return api.ErrNotFound
		}
		spec.Region = l.space.region(region, l)
	} else {
		index, ok := l.find(f, kids[0], api.OpUnit)
		data, also := l.find(f, kids[1], api.OpUnit)
		if !ok || !also {
			return api.ErrNotFound
		}
		spec.Index, spec.Data = index, data
		numbers = kids[2:]
	}
	spec.Width = int(l.nodes[numbers[0]].Int)
	spec.Update = int(l.nodes[numbers[1]].Int)
	if l.nodes[f.at].Op == api.OpIndexField {
		unit := 8 * spec.Width
		spec.Region = api.Region{Space: api.SpaceMemory, Len: uint64((l.bits(f.at) + unit - 1) / unit * spec.Width)}
	}
	return l.specify(f.at, spec)
}

// region returns the region that an object describes, which may be one of the program that is being loaded.
func (n *Space) region(id int, l *loader) api.Region {
	info := n.objects[id].info
	p := l.nodes
	if info.Table != l.number {
		p = n.tables[info.Table].program
	}
	at := info.Node
	return api.Region{Space: int(p[at+2].Int), Base: p[at+3].Int, Len: p[at+4].Int}
}

// elementBits returns the number of bits of a field element.
func (l *loader) elementBits(at int) int {
	kids := l.kids(at)
	return int(l.nodes[kids[len(kids)-1]].Int)
}

// bits returns the number of bits of all elements of a field declaration.
func (l *loader) bits(at int) int {
	sum := 0
	for _, kid := range l.body(at) {
		sum += l.elementBits(kid)
	}
	return sum
}

// specify gives each element of a field declaration its place.
func (l *loader) specify(at int, spec api.FieldSpec) api.Errno {
	for _, kid := range l.body(at) {
		bits := l.elementBits(kid)
		if l.nodes[kid].Op == api.OpUnit {
			spec.Len = bits
			if !field.Valid(spec) {
				return api.ErrInvalid
			}
			l.space.objects[l.units[kid]].field = spec
		}
		spec.Bit += bits
	}
	return api.OK
}
