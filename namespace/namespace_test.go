package namespace

import (
	"reflect"
	"slices"
	"strconv"
	"strings"
	"testing"

	"platformfw/api"
	"platformfw/syntax"
)

func load(t *testing.T, n *Space, src string, want api.Errno) int {
	t.Helper()
	p, at, e := syntax.Parse(src)
	if e != api.OK {
		t.Fatal(src, at, e)
	}
	before := n.Objects()
	number, e := n.Load(p)
	if e != want {
		t.Errorf("%.200s: %d, want %d", src, e, want)
	}
	if e != api.OK && (number != 0 || !slices.Equal(before, n.Objects())) {
		t.Error("a failed load has an effect")
	}
	return number
}

func unload(t *testing.T, n *Space, table int, want api.Errno) {
	t.Helper()
	if e := n.Unload(table); e != want {
		t.Error(table, e, want)
	}
}

// P12.1: the first objects, numbers and tables.
func TestLoad(t *testing.T) {
	n := New()
	for id, path := range []string{"\\", "\\_SB", "\\_GPE"} {
		o, ok := n.Object(id)
		if !ok || o != (api.Object{Path: path, Op: api.OpScope, Parent: min(id, 1) - 1}) {
			t.Error(o)
		}
	}
	if k := load(t, n, "Device (X) {Name (_ADR, 1)} Scope (\\_SB) {PowerResource (P, 0, 0) {Event (E)}}", api.OK); k != 1 {
		t.Error(k)
	}
	want := []api.Object{{Path: "\\X", Op: api.OpDevice, Parent: 0, Table: 1, Node: 0}, {Path: "\\X._ADR", Op: api.OpNameDecl, Parent: 3, Table: 1, Node: 3}, {Path: "\\_SB.P", Op: api.OpPowerResource, Parent: 1, Table: 1, Node: 9}, {Path: "\\_SB.P.E", Op: api.OpEvent, Parent: 5, Table: 1, Node: 14}}
	for i, w := range want {
		if o, ok := n.Object(3 + i); o != w || !ok {
			t.Error(o, w)
		}
	}
	load(t, n, "Name (A, 1) Name (A, 2)", api.ErrInvalid)
	load(t, n, "Scope (NONE) {}", api.ErrNotFound)
	load(t, n, "Scope (\\X._ADR) {}", api.ErrNotFound)
	load(t, n, "Scope (Y) {} Device (Y) {}", api.ErrNotFound)
	load(t, n, "Device (Y) {} Scope (Y) {} Name (X, 1)", api.ErrDuplicate)
	load(t, n, "Name (Q, 1) Scope (\\X) {Mutex (_ADR, 0)}", api.ErrDuplicate)
	load(t, n, "Device (_SB) {}", api.ErrDuplicate)
	load(t, n, "Name (X, 1) Scope (NONE) {}", api.ErrDuplicate)
	load(t, n, "Scope (NONE) {} Name (X, 1)", api.ErrNotFound)
	if k := load(t, n, "Device (Y) {} Scope (Y) {Name (Z, 1)}", api.OK); k != 2 {
		t.Error(k)
	}
	if o, _ := n.Object(8); o.Path != "\\Y.Z" {
		t.Error("failed loads use up numbers", o)
	}
	if number, e := n.Load([]api.Node{{}}); number != 0 || e != api.ErrInvalid {
		t.Error(e)
	}
}

// P12.1: limits of tables and objects.
func TestLimits(t *testing.T) {
	n := New()
	for i := range api.MaxTables {
		load(t, n, "Event (E"+strconv.Itoa(i)+")", api.OK)
	}
	load(t, n, "", api.ErrFull)
	load(t, n, "Name (A, 1) Name (A, 1)", api.ErrInvalid)
	unload(t, n, 3, api.OK)
	if k := load(t, n, "", api.OK); k != 17 {
		t.Error(k)
	}
	n = New()
	events := func(prefix string, count int) string {
		var b strings.Builder
		for i := range count {
			b.WriteString("Event (" + prefix + strconv.Itoa(i) + ")")
		}
		return b.String()
	}
	load(t, n, events("A", 900), api.OK)
	load(t, n, events("B", 121), api.OK)
	load(t, n, "Event (X)", api.ErrFull)
	load(t, n, "Event (A1)", api.ErrDuplicate)
	unload(t, n, 2, api.OK)
	load(t, n, events("B", 122), api.ErrFull)
}

// P12.1 and P12.4: fields and their specifications.
func TestFields(t *testing.T) {
	n := New()
	load(t, n, "OperationRegion (R, 1, 0x60, 8) Scope (_SB) {Field (R, 2, 1) {Unit (A, 5) Skip (3) Unit (B, 12)} IndexField (A, B, 4, 2) {Skip (30) Unit (C, 4)}}", api.OK)
	spec := func(path string) api.FieldSpec {
		id, _ := n.Lookup("\\", path)
		s, ok := n.Field(id)
		if !ok {
			t.Error("no field", path)
		}
		return s
	}
	if s := spec("\\_SB.A"); s != (api.FieldSpec{Region: api.Region{Space: 1, Base: 0x60, Len: 8}, Bit: 0, Len: 5, Width: 2, Update: 1, Index: -1, Data: -1}) {
		t.Error(s)
	}
	if s := spec("\\_SB.B"); s.Bit != 8 || s.Len != 12 {
		t.Error(s)
	}
	if s := spec("\\_SB.C"); s != (api.FieldSpec{Region: api.Region{Len: 8}, Bit: 30, Len: 4, Width: 4, Update: 2, Index: 4, Data: 5}) {
		t.Error(s)
	}
	if _, ok := n.Field(3); ok {
		t.Error("region has a field")
	}
	load(t, n, "Field (NONE, 1, 0) {}", api.ErrNotFound)
	load(t, n, "Field (_SB, 1, 0) {}", api.ErrNotFound)
	load(t, n, "IndexField (\\_SB.A, R, 1, 0) {}", api.ErrNotFound)
	load(t, n, "Field (R, 8, 0) {Unit (X, 1)}", api.OK)
	load(t, n, "Field (R, 1, 0) {Unit (Y, 60) Unit (Z, 5)}", api.ErrInvalid)
	load(t, n, "Field (R, 1, 0) {Unit (Y, 65)} Field (NONE, 1, 0) {}", api.ErrInvalid)
	load(t, n, "Field (NONE, 1, 0) {} Field (R, 1, 0) {Unit (Y, 65)}", api.ErrNotFound)
	load(t, n, "OperationRegion (Q, 0, 1, 8) Field (Q, 2, 0) {Unit (Y, 1)}", api.ErrInvalid)
	load(t, n, "OperationRegion (Q, 3, 0, 8) Field (Q, 2, 0) {Unit (Y, 1)}", api.ErrInvalid)
	load(t, n, "IndexField (\\_SB.A, \\_SB.B, 1, 0) {Skip (0x800000) Unit (Y, 1)}", api.ErrInvalid)
	load(t, n, "IndexField (\\_SB.A, \\_SB.B, 1, 0) {Skip (0x7FFFF8) Unit (Y, 8)}", api.OK)
	load(t, n, "Scope (_SB) {OperationRegion (R, 0, 0, 4) Field (R, 1, 0) {Unit (W, 8)}}", api.OK)
	if s := spec("\\_SB.W"); s.Region.Space != 0 || spec("\\_SB.A").Region.Space != 1 {
		t.Error("the nearer region is used by later tables only")
	}
}

// P12.2: unloading.
func TestUnload(t *testing.T) {
	n := New()
	before := n.Objects()
	load(t, n, "Device (D) {} OperationRegion (R, 0, 0, 4) Field (R, 1, 0) {Unit (U, 8)}", api.OK)
	unload(t, n, 0, api.ErrNotFound)
	unload(t, n, 2, api.ErrNotFound)
	load(t, n, "Scope (D) {Name (A, 1)}", api.OK)
	unload(t, n, 1, api.ErrBusy)
	unload(t, n, 2, api.OK)
	load(t, n, "Field (R, 1, 0) {}", api.OK)
	unload(t, n, 1, api.ErrBusy)
	unload(t, n, 3, api.OK)
	load(t, n, "IndexField (U, U, 1, 0) {}", api.OK)
	unload(t, n, 1, api.ErrBusy)
	unload(t, n, 4, api.OK)
	load(t, n, "Scope (D) {}", api.OK)
	p, _, _ := syntax.Parse("Scope (D) {}")
	if !reflect.DeepEqual(n.Program(5), p) || n.Program(0) != nil || n.Program(2) != nil {
		t.Error("program")
	}
	unload(t, n, 1, api.OK)
	if !slices.Equal(n.Objects(), before) || len(n.Children(0)) != 2 {
		t.Error(n.Objects())
	}
	load(t, n, "Device (D) {}", api.OK)
	if id, ok := n.Lookup("\\", "D"); !ok || id != 7 {
		t.Error("number reused", id)
	}
}

// P12.3: looking objects up.
func TestLookup(t *testing.T) {
	n := New()
	load(t, n, "Device (X) {Name (_ADR, 1) Device (Y) {Name (B, 1)}} Name (B, 2)", api.OK)
	for _, c := range []struct {
		scope, name string
		id          int
		ok          bool
	}{{"\\X", "_ADR", 4, true}, {"\\X", "X", 3, true}, {"\\X.Y", "B", 6, true}, {"\\X", "B", 7, true}, {"\\X", "Y.B", 6, true}, {"\\X.Y", "X.Y", 0, false}, {"\\X.Y", "^B", 0, false}, {"\\Q.R", "B", 7, true}, {"\\", "\\", 0, true}, {"X", "B", 0, false}, {"\\", "b", 0, false}, {"\\", "", 0, false}, {"", "B", 0, false}} {
		if id, ok := n.Lookup(c.scope, c.name); id != c.id || ok != c.ok {
			t.Error(c, id, ok)
		}
	}
	if !slices.Equal(n.Children(0), []int{1, 2, 3, 7}) || !slices.Equal(n.Children(3), []int{4, 5}) || n.Children(99) != nil || !slices.Equal(n.Objects(), []int{0, 1, 2, 3, 4, 5, 6, 7}) {
		t.Error(n.Children(0), n.Children(3))
	}
	if o, ok := n.Object(99); ok || o != (api.Object{}) {
		t.Error("unknown object")
	}
}
