package check

import (
	"slices"
	"strings"
	"testing"

	"platformfw/api"
	"platformfw/syntax"
)

func parse(t *testing.T, src string) []api.Node {
	t.Helper()
	p, at, e := syntax.Parse(src)
	if e != api.OK {
		t.Fatal(src, at, e)
	}
	return p
}

// codes returns the codes of the diagnostics.
func codes(l []api.Diag) []int {
	var c []int
	for _, d := range l {
		c = append(c, d.Code)
	}
	return c
}

// P4.1: declarations in preorder with their absolute paths.
func TestDeclarations(t *testing.T) {
	p := parse(t, "Scope (\\_SB) {Device (D) {Name (A, 1) Method (M, 0, 0, 0) {}} PowerResource (P, 0, 0) {Event (E)}} OperationRegion (R, 0, 0, 4) Field (R, 1, 0) {Skip (1) Unit (U, 1)} Mutex (X, 0) Name (A, 1) Name (A, 2)")
	var got []string
	for _, d := range Declarations(p) {
		got = append(got, d.Path)
		if d.Op != p[d.Node].Op {
			t.Error(d)
		}
	}
	want := "\\_SB.D \\_SB.D.A \\_SB.D.M \\_SB.P \\_SB.P.E \\R \\U \\X \\A \\A"
	if strings.Join(got, " ") != want {
		t.Error(got)
	}
	if Declarations([]api.Node{{Op: api.OpEvent}}) != nil {
		t.Error("invalid program")
	}
}

// P4.2: an invalid program, and the two examples.
func TestBasics(t *testing.T) {
	if l := Check([]api.Node{{}}); !slices.Equal(l, []api.Diag{{Node: 0, Code: api.DiagTree}}) {
		t.Error(l)
	}
	if l := Check(parse(t, "Name (A, 1) Name (A, 2)")); !slices.Equal(l, []api.Diag{{Node: 3, Code: api.DiagDuplicate}}) {
		t.Error(l)
	}
	if l := Check(parse(t, "Method (M, 1, 0, 0) {Store (Arg1, Local0)}")); !slices.Equal(l, []api.Diag{{Node: 7, Code: api.DiagArg}}) {
		t.Error(l)
	}
	if l := Check(nil); len(l) != 0 {
		t.Error(l)
	}
}

// P4.2: numbers at and beyond their limits.
func TestRange(t *testing.T) {
	for _, c := range []struct{ ok, bad string }{
		{"PowerResource (P, 5, 65535) {}", "PowerResource (P, 6, 0) {}"}, {"PowerResource (P, 0, 0) {}", "PowerResource (P, 0, 65536) {}"},
		{"Method (M, 7, 1, 15) {}", "Method (M, 8, 0, 0) {}"}, {"", "Method (M, 0, 2, 0) {}"}, {"", "Method (M, 0, 0, 16) {}"},
		{"Mutex (M, 15)", "Mutex (M, 16)"}, {"OperationRegion (R, 1, 0x8000000000000000, 0x100000)", "OperationRegion (R, 4, 0, 1)"},
		{"OperationRegion (R, 3, 255, 1)", "OperationRegion (R, 3, 255, 2)"}, {"OperationRegion (R, 3, 0, 256)", "OperationRegion (R, 2, 0, 1)"},
		{"", "OperationRegion (R, 0, 0, 0)"}, {"", "OperationRegion (R, 0, 0, 0x100001)"}, {"", "OperationRegion (R, 0, 0x8000000000000001, 1)"}, {"", "OperationRegion (R, 3, 0xFFFFFFFFFFFFFFFF, 1)"},
		{"Name (A, Buffer (255) {255})", "Name (A, Buffer (256) {})"}, {"", "Name (A, Buffer (1) {256})"}, {"Name (A, Package (64) {})", "Name (A, Package (65) {})"},
		{"Method (M, 0, 0, 0) {Acquire (X, 65535)}", "Method (M, 0, 0, 0) {Acquire (X, 65536)}"},
	} {
		if l := Check(parse(t, c.ok)); len(l) != 0 {
			t.Error(c.ok, l)
		}
		if l := codes(Check(parse(t, c.bad))); !slices.Equal(l, []int{api.DiagRange}) {
			t.Error(c.bad, l)
		}
	}
	const r = "OperationRegion (R, 0, 0, 0x100000) "
	for _, s := range []string{"Field (R, 8, 2) {Unit (U, 256) Skip (0x7FFF00)}", "Field (R, 1, 0) {Skip (0x800000)}"} {
		if l := Check(parse(t, r+s)); len(l) != 0 {
			t.Error(s, l)
		}
	}
	for _, s := range []string{"Field (R, 3, 0) {}", "Field (R, 0, 0) {}", "Field (R, 16, 0) {}", "Field (R, 1, 3) {}", "Field (R, 1, 0) {Unit (U, 0)}", "Field (R, 1, 0) {Unit (U, 257)}", "Field (R, 1, 0) {Skip (0x800001)}", "Field (R, 1, 0) {Unit (A, 8)} IndexField (A, A, 5, 0) {}", "Field (R, 1, 0) {Unit (A, 8)} IndexField (A, A, 1, 3) {}"} {
		if l := codes(Check(parse(t, r+s))); !slices.Equal(l, []int{api.DiagRange}) {
			t.Error(s, l)
		}
	}
}

// P4.2: scopes, counts, regions and bounds.
func TestDeclarationDiagnostics(t *testing.T) {
	deep := strings.TrimSuffix(strings.Repeat("A.", 32), ".")
	for _, c := range []struct {
		src  string
		want []api.Diag
	}{
		{"Scope (^A) {Name (B, 1)} Name (B, 2)", []api.Diag{{Node: 0, Code: api.DiagScope}, {Node: 6, Code: api.DiagDuplicate}}},
		{"Scope (\\" + deep + ") {Device (D) {Name (X, 1) Name (X, 2)}}", []api.Diag{{Node: 3, Code: api.DiagScope}, {Node: 6, Code: api.DiagScope}, {Node: 9, Code: api.DiagScope}}},
		{"Name (A, Buffer (1) {1, 2})", []api.Diag{{Node: 2, Code: api.DiagCount}}},
		{"Name (A, Package (1) {Package (0) {1}, 300})", []api.Diag{{Node: 2, Code: api.DiagCount}, {Node: 5, Code: api.DiagCount}}},
		{"Name (A, Buffer (300) {256})", []api.Diag{{Node: 2, Code: api.DiagRange}}},
		{"Field (R, 1, 0) {Unit (U, 200)}", []api.Diag{{Node: 0, Code: api.DiagRegion}}},
		{"Name (R, 1) Field (R, 1, 0) {}", []api.Diag{{Node: 3, Code: api.DiagRegion}}},
		{"Field (R, 1, 0) {Unit (U, 8)} OperationRegion (R, 0, 0, 1)", nil},
		{"Scope (X) {Field (R, 1, 0) {Unit (U, 8)}} OperationRegion (R, 0, 0, 1)", nil},
		{"OperationRegion (R, 0, 0, 3) Field (R, 2, 0) {Unit (U, 8) Unit (V, 8) Unit (W, 1)}", []api.Diag{{Node: 16, Code: api.DiagBounds}}},
		{"OperationRegion (R, 0, 0, 3) Field (R, 1, 0) {Skip (16) Unit (U, 8) Unit (V, 1)}", []api.Diag{{Node: 15, Code: api.DiagBounds}}},
		{"OperationRegion (R, 0, 0, 1) Field (R, 1, 0) {Unit (U, 0) Unit (V, 9)}", []api.Diag{{Node: 10, Code: api.DiagRange}}},
		{"OperationRegion (R, 0, 0, 0) Field (R, 1, 0) {Unit (V, 9)}", []api.Diag{{Node: 0, Code: api.DiagRange}}},
		{"IndexField (A, B, 1, 0) {Unit (A, 8) Unit (C, 8)}", []api.Diag{{Node: 0, Code: api.DiagRegion}}},
		{"IndexField (A, B, 1, 0) {Unit (A, 8) Unit (B, 8)}", nil},
		{"Name (A, 1) OperationRegion (A, 0, 0, 9) Field (A, 1, 0) {}", []api.Diag{{Node: 3, Code: api.DiagDuplicate}, {Node: 8, Code: api.DiagRegion}}},
	} {
		if l := Check(parse(t, c.src)); !slices.Equal(l, c.want) {
			t.Error(c.src, l)
		}
	}
}

// P4.2: loops, arguments and statements that cannot be reached.
func TestMethodDiagnostics(t *testing.T) {
	for _, c := range []struct {
		body string
		want []int
	}{
		{"Break", []int{api.DiagLoop}}, {"While (1) {If (1) {Continue} Break}", nil}, {"If (1) {Continue} Else {Break}", []int{api.DiagLoop, api.DiagLoop}},
		{"Return Break", []int{api.DiagLoop, api.DiagUnreachable}}, {"If (1) {Return (1)} Else {Return} Return", nil},
		{"Return Return FOO ()", []int{api.DiagUnreachable, api.DiagUnreachable}}, {"While (1) {Break Reset (E) While (1) {}}", []int{api.DiagUnreachable, api.DiagUnreachable}},
		{"FOO (Arg0, Arg1)", nil}, {"FOO (Arg2, Arg6)", []int{api.DiagArg, api.DiagArg}},
	} {
		if l := codes(Check(parse(t, "Method (M, 2, 0, 0) {"+c.body+"}"))); !slices.Equal(l, c.want) {
			t.Error(c.body, l)
		}
	}
	if l := codes(Check(parse(t, "Method (M, 8, 0, 0) {FOO (Arg6)}"))); !slices.Equal(l, []int{api.DiagRange}) {
		t.Error("too many arguments", l)
	}
}
