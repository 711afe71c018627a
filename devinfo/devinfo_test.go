package devinfo

import (
	"slices"
	"testing"

	"platformfw/api"
	"platformfw/namespace"
	"platformfw/syntax"
)

const sample = `PowerResource (PWR0, 0, 0) {} PowerResource (PWR1, 0, 0) {}
Device (D) {
  Name (I, 7) Name (S, "x") Name (B, Buffer (3) {1, 2}) Name (P, Package (6) {1, "a", Buffer (1) {}, Package (2) {I}, I, NONE}) Name (Q, Package (2) {PWR0})
  Name (_PR0, Package (2) {PWR1, \PWR0}) Name (_PR1, Package (1) {D}) Name (_PR2, 5) Name (_PR3, Package (0) {})
  Name (_PRW, Package (4) {63, 5, PWR1, PWR0})
  Method (M, 0, 0, 0) {}
}
Device (E) {Name (_STA, 0xE) Device (F) {Name (_STA, 1)} Name (_PR0, Package (2) {PWR0, PWR0}) Name (_PR1, Package (3) {PWR0, PWR0, 1}) Method (_PR2, 0, 0, 0) {} Name (_PRW, Package (2) {64, 0}) Name (_PR3, Package (1) {})}
Device (G) {Name (_STA, "0") Name (_PRW, Package (2) {1})}
Device (H) {Name (_STA, Package (1) {0}) Name (_PRW, Package (2) {1, 6})}
Device (J) {Name (_STA, 0x11) Device (K) {} Name (_PRW, Package (4) {1, 3, PWR0, PWR0})}
Device (L) {Name (_PRW, Package (3) {1, 3, D}) Scope (\_SB) {Device (N) {}}}
Device (O) {Name (_PRW, 1)}
`

func space(t *testing.T) *namespace.Space {
	t.Helper()
	p, at, e := syntax.Parse(sample)
	if e != api.OK {
		t.Fatal(at, e)
	}
	n := namespace.New()
	if _, e := n.Load(p); e != api.OK {
		t.Fatal(e)
	}
	return n
}

func find(t *testing.T, n *namespace.Space, path string) int {
	t.Helper()
	id, ok := n.Lookup("\\", path)
	if !ok {
		t.Fatal(path)
	}
	return id
}

// P13.1: devices, data, children and integers.
func TestData(t *testing.T) {
	n := space(t)
	var names []string
	for _, id := range Devices(n) {
		o, _ := n.Object(id)
		names = append(names, o.Path)
	}
	if !slices.Equal(names, []string{"\\D", "\\E", "\\E.F", "\\G", "\\H", "\\J", "\\J.K", "\\L", "\\_SB.N", "\\O"}) {
		t.Error(names)
	}
	i := find(t, n, "D.I")
	for _, c := range []struct {
		path string
		want []api.Value
	}{
		{"D.I", []api.Value{{Kind: 1, Int: 7}}}, {"D.S", []api.Value{{Kind: 2, Str: "x"}}}, {"D.B", []api.Value{{Kind: 3, Str: "\x01\x02\x00"}}},
		{"D.P", []api.Value{{Kind: 1, Int: 1}, {Kind: 2, Str: "a"}, {Kind: 3, Str: "\x00"}, {Kind: 4}, {Kind: 6, Obj: i}, {}}}, {"D._PR3", nil}, {"D.Q", []api.Value{{Kind: 6, Obj: 3}, {}}},
	} {
		if l, e := Data(n, find(t, n, c.path)); e != api.OK || !slices.Equal(l, c.want) {
			t.Error(c.path, l, e)
		}
	}
	if l, e := Data(n, 999); l != nil || e != api.ErrNotFound {
		t.Error(e)
	}
	if l, e := Data(n, find(t, n, "D")); l != nil || e != api.ErrType {
		t.Error(e)
	}
	d := find(t, n, "D")
	if id, ok := Find(n, d, "I"); id != i || !ok {
		t.Error(id)
	}
	for _, seg := range []string{"X", "", "D.I", "i"} {
		if id, ok := Find(n, d, seg); id != 0 || ok {
			t.Error(seg)
		}
	}
	if _, ok := Find(n, 999, "I"); ok {
		t.Error("no object")
	}
	if v, ok := Integer(n, d, "I"); v != 7 || !ok {
		t.Error(v)
	}
	for _, seg := range []string{"S", "B", "P", "M", "X", "_PR3"} {
		if v, ok := Integer(n, d, seg); v != 0 || ok {
			t.Error(seg)
		}
	}
}

// P13.2: present devices.
func TestPresent(t *testing.T) {
	n := space(t)
	for path, want := range map[string]bool{"D": true, "E": false, "E.F": false, "G": true, "H": true, "J": true, "J.K": true, "\\_SB.N": true, "\\": false, "D.I": false} {
		if Present(n, find(t, n, path)) != want {
			t.Error(path)
		}
	}
	if Present(n, 999) {
		t.Error("no object")
	}
}

// P13.3: power resources.
func TestPowerResources(t *testing.T) {
	n := space(t)
	for _, c := range []struct {
		path  string
		state int
		want  []int
		e     api.Errno
	}{
		{"D", 0, []int{4, 3}, 0}, {"D", 1, nil, api.ErrType}, {"D", 2, nil, api.ErrType}, {"D", 3, nil, 0}, {"D", 4, nil, api.ErrNotFound}, {"D", -1, nil, api.ErrNotFound}, {"D.I", 0, nil, api.ErrNotFound},
		{"E", 0, nil, api.ErrDuplicate}, {"E", 1, nil, api.ErrType}, {"E", 2, nil, api.ErrType}, {"E", 3, nil, api.ErrType}, {"G", 0, nil, 0},
	} {
		if l, e := PowerResources(n, find(t, n, c.path), c.state); !slices.Equal(l, c.want) || e != c.e {
			t.Error(c, l, e)
		}
	}
}

// P13.4: wake capabilities.
func TestWake(t *testing.T) {
	n := space(t)
	w, e := Wake(n, find(t, n, "D"))
	if e != api.OK || w.Event != 63 || w.Deepest != 5 || !slices.Equal(w.Resources, []int{4, 3}) {
		t.Error(w, e)
	}
	for path, want := range map[string]api.Errno{"\\": api.ErrNotFound, "E.F": api.ErrNotFound, "D.I": api.ErrNotFound, "E": api.ErrOverflow, "G": api.ErrType, "H": api.ErrOverflow, "J": api.ErrDuplicate, "L": api.ErrType, "O": api.ErrType} {
		if w, e := Wake(n, find(t, n, path)); e != want || w.Event != 0 || w.Deepest != 0 || w.Resources != nil {
			t.Error(path, w, e)
		}
	}
}
