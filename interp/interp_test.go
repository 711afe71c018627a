package interp

import (
	"slices"
	"strings"
	"testing"

	"platformfw/api"
	"platformfw/ec"
	"platformfw/iospace"
	"platformfw/namespace"
	"platformfw/syntax"
)

// world is a machine with its surroundings.
type world struct {
	t     *testing.T
	space *namespace.Space
	bus   *iospace.Bus
	ctl   *ec.Controller
	m     *Machine
}

func newWorld(t *testing.T, src string) *world {
	t.Helper()
	w := &world{t: t, space: namespace.New(), bus: iospace.New()}
	w.ctl, _ = ec.New(2)
	w.m = New(w.space, w.bus, w.ctl)
	w.bus.Map(0, api.Range{Base: 0, Len: 256}, 1)
	w.bus.Map(1, api.Range{Base: 0, Len: 256}, 1)
	w.bus.Enable(1, true)
	w.load(src)
	return w
}

func (w *world) load(src string) int {
	w.t.Helper()
	p, at, e := syntax.Parse(src)
	if e != api.OK {
		w.t.Fatal(src, at, e)
	}
	table, e := w.space.Load(p)
	if e != api.OK {
		w.t.Fatal(src, e)
	}
	return table
}

func (w *world) start(path string, args ...api.Value) int {
	w.t.Helper()
	n, e := w.m.Start(path, args)
	if e != api.OK {
		w.t.Fatal(path, e)
	}
	return n
}

// run executes a method to its end, at time 0, and returns the number of steps.
func (w *world) run(path string, args ...api.Value) (api.Value, api.Errno, int) {
	w.t.Helper()
	n := w.start(path, args...)
	steps := 1
	for w.m.Step(n, 0) < api.ThreadDone && steps < 50000 {
		steps++
	}
	v, e := w.m.Result(n)
	w.m.Collect(n)
	return v, e, steps
}

func (w *world) step(thread int, now uint64, want int) {
	w.t.Helper()
	if got := w.m.Step(thread, now); got != want {
		w.t.Errorf("status %d at %d, want %d", got, now, want)
	}
}

// finish performs steps at a time until a thread has ended.
func (w *world) finish(thread int, now uint64) {
	w.t.Helper()
	for range 5000 {
		if w.m.Step(thread, now) >= api.ThreadDone {
			return
		}
	}
	w.t.Fatal("the thread does not end")
}

func num(n uint64) api.Value { return api.Value{Kind: api.ValInteger, Int: n} }
func str(s string) api.Value { return api.Value{Kind: api.ValString, Str: s} }
func buf(s string) api.Value { return api.Value{Kind: api.ValBuffer, Str: s} }

const yes = 1<<64 - 1

// body runs a method with a body and further declarations.
func body(t *testing.T, declarations, text string, args ...api.Value) (api.Value, api.Errno, *world) {
	t.Helper()
	w := newWorld(t, declarations+" Method (M, "+string([]byte{'0' + byte(len(args))})+", 0, 0) {"+text+"}")
	v, e, _ := w.run("\\M", args...)
	return v, e, w
}

// P16.1: starting threads.
func TestStart(t *testing.T) {
	w := newWorld(t, "Method (M, 1, 0, 0) {Return (Add (Arg0, 1))} Name (A, 1) Method (N, 0, 0, 0) {} Method (DEEP, 0, 0, 0) {Store (Add (1, Package (64) {"+strings.TrimSuffix(strings.Repeat("0, ", 64), ", ")+"}), Local0)}")
	for _, c := range []struct {
		path string
		args []api.Value
		e    api.Errno
	}{
		{"M", []api.Value{num(1)}, api.ErrNotFound}, {"\\X", nil, api.ErrNotFound}, {"\\A", nil, api.ErrNotFound}, {"", nil, api.ErrNotFound}, {"\\M", nil, api.ErrInvalid}, {"\\M", []api.Value{{Kind: 4}}, api.ErrInvalid},
		{"\\M", []api.Value{{Kind: 9}}, api.ErrInvalid}, {"\\M", []api.Value{{Kind: 6}}, api.ErrInvalid}, {"\\M", []api.Value{str(strings.Repeat("a", 256))}, api.ErrInvalid}, {"\\DEEP", nil, api.ErrOverflow},
	} {
		if n, e := w.m.Start(c.path, c.args); n != 0 || e != c.e {
			t.Error(c, n, e)
		}
	}
	v, e, steps := w.run("\\M", api.Value{Kind: 1, Int: 41, Str: "junk", Obj: 7})
	if v != num(42) || e != api.OK || steps != 5 {
		t.Error(v, e, steps)
	}
	for i := range api.MaxThreads {
		if n := w.start("\\N"); n != i+2 {
			t.Error("number", n)
		}
	}
	if _, e := w.m.Start("\\N", nil); e != api.ErrFull {
		t.Error(e)
	}
	if _, e := w.m.Start("\\DEEP", nil); e != api.ErrOverflow {
		t.Error("lowering comes first", e)
	}
	s, ok := w.m.Snapshot(2)
	if !ok || len(s.Frames) != 1 || s.Frames[0].Depth != 0 || s.Frames[0].Next != 0 {
		t.Error(s)
	}
	if w.m.Status(2) != api.ThreadRunning {
		t.Error("status")
	}
}

// P16.4: results, threads and snapshots.
func TestThreads(t *testing.T) {
	w := newWorld(t, "Method (M, 1, 0, 0) {Store (5, Local3) Return (F (Add (1, Arg0)))} Method (F, 1, 0, 0) {Return (Add (7, Arg0))} Method (BAD, 0, 0, 0) {Return (X)}")
	n := w.start("\\M", num(2))
	for range 7 {
		w.step(n, 0, api.ThreadRunning)
	}
	w.step(n, 0, api.ThreadRunning) // the called frame is entered
	w.step(n, 0, api.ThreadRunning)
	s, _ := w.m.Snapshot(n)
	m, _ := w.space.Lookup("\\", "M")
	if len(s.Frames) != 2 || s.Frames[0].Method != m || s.Frames[0].Next != 6 || s.Frames[0].Locals[3] != num(5) || s.Frames[0].Depth != 0 || s.Frames[1].Args[0] != num(3) || s.Frames[1].Depth != 1 || !slices.Equal(s.Stack, []api.Value{num(7)}) {
		t.Error(s)
	}
	if _, e := w.m.Result(n); e != api.ErrState {
		t.Error(e)
	}
	if e := w.m.Collect(n); e != api.ErrState {
		t.Error(e)
	}
	bad := w.start("\\BAD")
	w.step(bad, 0, api.ThreadRunning)
	w.step(bad, 0, api.ThreadFailed)
	w.step(bad, 0, api.ThreadFailed)
	if v, e := w.m.Result(bad); v != (api.Value{}) || e != api.ErrNotFound {
		t.Error(v, e)
	}
	if s, ok := w.m.Snapshot(bad); !ok || len(s.Frames) != 0 || len(s.Stack) != 0 {
		t.Error(s)
	}
	if !slices.Equal(w.m.Threads(), []int{n, bad}) {
		t.Error(w.m.Threads())
	}
	if w.m.Collect(bad) != api.OK || w.m.Collect(bad) != api.ErrNotFound || w.m.Status(bad) != 0 || w.m.Step(bad, 0) != 0 {
		t.Error("collected")
	}
	if _, e := w.m.Result(bad); e != api.ErrNotFound {
		t.Error(e)
	}
	if _, ok := w.m.Snapshot(bad); ok {
		t.Error("snapshot")
	}
	w.finish(n, 0)
	if v, _ := w.m.Result(n); v != num(10) {
		t.Error(v)
	}
}

// P16.3: values, operators, variables and control flow.
func TestInstructions(t *testing.T) {
	const names = "Name (I, 5) Name (S, \"ab\") Name (B, Buffer (2) {1, 2}) Name (P, Package (3) {7, \"x\", I}) Device (D) {} Mutex (MU, 0) Event (EV) Method (F, 2, 0, 0) {Store (9, Arg0) Return (Subtract (Arg1, 1))} Method (G, 0, 0, 0) {}"
	for _, c := range []struct {
		text string
		v    api.Value
		e    api.Errno
	}{
		{"", api.Value{}, 0}, {"Return", api.Value{}, 0}, {"Return (\"q\")", str("q"), 0}, {"Return (Buffer (2) {3})", buf("\x03\x00"), 0}, {"Return (Mid (\"abcd\", 1, 2))", str("bc"), 0}, {"Return (Mid (\"abcd\", P, 2))", api.Value{}, api.ErrType}, {"Return (Mid (D, P, 1))", api.Value{}, api.ErrType},
		{"Return (SizeOf (P))", num(3), 0}, {"Return (SizeOf (S))", num(2), 0}, {"Return (SizeOf (D))", api.Value{}, api.ErrType}, {"Return (Divide (1, 0))", api.Value{}, api.ErrDivide}, {"Return (Subtract (5, 2))", num(3), 0},
		{"Store (0, Local0) While (LLess (Local0, 5)) {Store (Add (Local0, 1), Local0) If (LEqual (Local0, 3)) {Break}} Return (Local0)", num(3), 0}, {"If (0) {Return (1)} Else {Return (2)}", num(2), 0}, {"If (D) {}", api.Value{}, api.ErrType}, {"If (\"0\") {Return (1)} Return (2)", num(2), 0},
		{"Return (F (1, 5))", num(4), 0}, {"F (1, 5)", api.Value{}, 0}, {"Return (F (1))", api.Value{}, api.ErrInvalid}, {"Return (I ())", api.Value{}, api.ErrType}, {"Return (NONE ())", api.Value{}, api.ErrNotFound}, {"Return (G ())", api.Value{}, 0},
		{"Store (\"1F\", I) Return (I)", num(31), 0}, {"Store (1, S) Return (S)", str("0000000000000001"), 0}, {"Store (P, I)", api.Value{}, api.ErrType}, {"Store (D, I)", api.Value{}, api.ErrType}, {"Store (1, P)", api.Value{}, api.ErrType}, {"Store (1, D)", api.Value{}, api.ErrType}, {"Store (1, NONE)", api.Value{}, api.ErrNotFound}, {"Store (Local0, I)", api.Value{}, api.ErrType},
		{"Return (ObjectType (I))", num(1), 0}, {"Return (ObjectType (S))", num(2), 0}, {"Return (ObjectType (P))", num(4), 0}, {"Return (ObjectType (D))", num(111), 0}, {"Return (ObjectType (MU))", num(120), 0}, {"Return (ObjectType (NONE))", api.Value{}, api.ErrNotFound}, {"Return (ObjectType (Local0))", num(0), 0},
		{"Store (RefOf (I), Local0) Return (ObjectType (Local0))", num(5), 0}, {"Store (RefOf (D), Local0) Return (ObjectType (DerefOf (Local0)))", num(111), 0}, {"Return (ObjectType (Index (P, 2)))", num(113), 0}, {"Return (CondRefOf (I))", num(yes), 0}, {"Return (CondRefOf (NONE))", num(0), 0},
		{"Return (DerefOf (RefOf (I)))", num(5), 0}, {"Return (DerefOf (I))", api.Value{}, api.ErrType}, {"Return (DerefOf (Index (P, 0)))", num(7), 0}, {"Return (DerefOf (Index (P, 3)))", api.Value{}, api.ErrOverflow}, {"Return (DerefOf (Index (S, 1)))", num('b'), 0}, {"Return (Index (S, 2))", api.Value{}, api.ErrOverflow}, {"Return (Index (B, \"1\"))", api.Value{Kind: 5, Obj: 1}, 0}, {"Return (Index (I, 0))", api.Value{}, api.ErrType}, {"Return (Index (I, D))", api.Value{}, api.ErrType},
		{"Store (3, Index (P, 1)) Return (DerefOf (Index (P, 1)))", num(3), 0}, {"Store (3, Index (S, 1))", api.Value{}, api.ErrType}, {"Store (RefOf (I), Local0) Store (\"A\", DerefOf (Local0)) Return (I)", num(10), 0}, {"Store (3, DerefOf (I))", api.Value{}, api.ErrType}, {"Store (RefOf (Local1), Local0) Store (8, DerefOf (Local0)) Return (Local1)", num(8), 0},
		{"Store (P, Local0) Store (1, Index (Local0, 0)) Return (DerefOf (Index (P, 0)))", num(7), 0}, {"Store (Package (2) {P}, Local0) Return (DerefOf (Index (DerefOf (Index (Local0, 0)), 0)))", api.Value{}, api.ErrType}, {"Return (DerefOf (Index (Package (2) {}, 1)))", api.Value{}, 0},
		{"Return (Package (2) {I, NONE})", api.Value{Kind: 4, Obj: 1}, 0}, {"Sleep (D)", api.Value{}, api.ErrType}, {"Notify (NONE, 1)", api.Value{}, api.ErrNotFound}, {"Notify (D, D)", api.Value{}, api.ErrType},
		{"Acquire (I, 0)", api.Value{}, api.ErrType}, {"Acquire (NONE, 0)", api.Value{}, api.ErrNotFound}, {"Release (MU)", api.Value{}, api.ErrDenied}, {"Release (EV)", api.Value{}, api.ErrType}, {"Wait (MU, D)", api.Value{}, api.ErrType}, {"Wait (EV, D)", api.Value{}, api.ErrType}, {"Signal (MU)", api.Value{}, api.ErrType}, {"Reset (I)", api.Value{}, api.ErrType},
		{"Return (Acquire (MU, 0))", num(0), 0}, {"Return (Wait (EV, 0))", num(yes), 0}, {"Signal (EV) Return (Wait (EV, 0))", num(0), 0}, {"Signal (EV) Reset (EV) Return (Wait (EV, 0))", num(yes), 0},
	} {
		if v, e, _ := body(t, names, c.text); v != c.v || e != c.e {
			t.Error(c.text, v, e)
		}
	}
}

// P16.3: packages are copied when they are stored, and numbered as they are created.
func TestPackages(t *testing.T) {
	w := newWorld(t, "Name (P, Package (4) {Package (1) {Package (1) {1}}, Q, \"s\", Package (0) {}}) Name (Q, Package (1) {2}) Method (M, 0, 0, 0) {Store (Q, P) Store (5, Index (P, 0)) Return (P)} Method (LATE, 0, 0, 0) {Return (DerefOf (Index (R, 0)))} Name (R, Package (1) {NEW})")
	p, _ := w.space.Lookup("\\", "P")
	q, _ := w.space.Lookup("\\", "Q")
	if v, e := w.m.Value(p); v != (api.Value{Kind: 4, Obj: 1}) || e != api.OK {
		t.Error(v, e)
	}
	l, ok := w.m.Elements(1)
	if !ok || !slices.Equal(l, []api.Value{{Kind: 4, Obj: 2}, {Kind: 6, Obj: q}, str("s"), {Kind: 4, Obj: 4}}) {
		t.Error(l)
	}
	l[0] = num(1)
	if l, _ := w.m.Elements(2); !slices.Equal(l, []api.Value{{Kind: 4, Obj: 3}}) {
		t.Error(l)
	}
	if v, e, _ := w.run("\\M"); v != (api.Value{Kind: 4, Obj: 6}) || e != api.OK {
		t.Error(v, e)
	}
	five, _ := w.m.Elements(5)
	six, _ := w.m.Elements(6)
	if five[0] != num(2) || six[0] != num(5) {
		t.Error(five, six)
	}
	for _, n := range []int{0, 7, -1} {
		if _, ok := w.m.Elements(n); ok {
			t.Error(n)
		}
	}
	w.load("Event (NEW)")
	id, _ := w.space.Lookup("\\", "NEW")
	if v, _, _ := w.run("\\LATE"); v != (api.Value{Kind: 6, Obj: id}) {
		t.Error("names are resolved when the package is created", v)
	}
	if _, e := w.m.Value(999); e != api.ErrNotFound {
		t.Error(e)
	}
	if _, e := w.m.Value(id); e != api.ErrType {
		t.Error(e)
	}
}

// P16.3: the limits of packages, references, frames and notifications.
func TestLimits(t *testing.T) {
	loop := func(n, text string) string {
		return "Store (0, Local0) While (LLess (Local0, " + n + ")) {" + text + " Store (Add (Local0, 1), Local0)} Return (Local0)"
	}
	for _, c := range []struct {
		text string
		e    api.Errno
	}{
		{loop("1024", "Store (RefOf (A), Local1)"), 0}, {loop("1025", "Store (RefOf (A), Local1)"), api.ErrFull}, {loop("512", "Store (Package (0) {}, Local1)"), 0}, {loop("513", "Store (Package (0) {}, Local1)"), api.ErrFull},
		{loop("511", "Store (Package (0) {}, Local1)") + "", 0}, {loop("64", "Notify (A, Local0)"), 0}, {loop("65", "Notify (A, Local0)"), api.ErrFull}, {"Return (R (1))", 0}, {"Return (R (0))", api.ErrOverflow},
	} {
		if _, e, _ := body(t, "Name (A, 1) Method (R, 1, 0, 0) {If (LLess (Arg0, 15)) {Return (R (Add (Arg0, 1)))}}", c.text); e != c.e {
			t.Error(c.text, e)
		}
	}
	_, _, w := body(t, "Name (A, 1) Name (P, Package (2) {Package (0) {}})", loop("511", "Store (Package (0) {}, Local1)"))
	p, _ := w.space.Lookup("\\", "P")
	if v, e := w.m.Value(p); v != (api.Value{Kind: 4, Obj: 1023}) || e != api.OK {
		t.Error(v, e)
	}
	_, _, w = body(t, "Name (P, Package (2) {Package (0) {}})", loop("511", "Store (Package (0) {}, Local1)")[:len(loop("511", "Store (Package (0) {}, Local1)"))-len(" Return (Local0)")]+" Return (Package (1) {})")
	p, _ = w.space.Lookup("\\", "P")
	if _, e := w.m.Value(p); e != api.ErrFull {
		t.Error("a package needs room for the nested ones", e)
	}
	if _, ok := w.m.Elements(1024); ok {
		t.Error("none is created")
	}
	_, _, w = body(t, "Device (D) {}", "Notify (D, 3) Notify (M, \"A\")")
	d, _ := w.space.Lookup("\\", "D")
	if l := w.m.TakeNotifications(); !slices.Equal(l, []api.Notification{{Object: d, Value: 3}, {Object: d + 1, Value: 10}}) || w.m.TakeNotifications() != nil {
		t.Error(l)
	}
}

// P16.2 and P16.3: references to variables of frames that no longer exist, and objects that were removed.
func TestDangling(t *testing.T) {
	const m = "Method (F, 0, 0, 0) {Return (RefOf (Local0))} Method (H, 1, 0, 0) {Store (4, DerefOf (Arg0))} "
	if _, e, _ := body(t, m, "Return (DerefOf (F ()))"); e != api.ErrNotFound {
		t.Error(e)
	}
	if _, e, _ := body(t, m, "Store (F (), Local0) Store (1, DerefOf (Local0))"); e != api.ErrNotFound {
		t.Error(e)
	}
	if v, e, _ := body(t, m, "H (RefOf (Local2)) Return (Local2)"); v != num(4) || e != api.OK {
		t.Error(v, e)
	}
	if v, e, _ := body(t, m, "H (RefOf (Arg0)) Return (Arg0)", num(1)); v != num(4) || e != api.OK {
		t.Error(v, e)
	}
	for _, text := range []string{"Return (DerefOf (Local0))", "Store (1, DerefOf (Local0))", "Return (ObjectType (DerefOf (Local0)))", "Return (ObjectType (Local1))"} {
		w := newWorld(t, "Method (M, 0, 0, 0) {Store (RefOf (\\X), Local0) Store (\\D, Local1) "+text+"}")
		table := w.load("Name (X, 1) Device (D) {}")
		n := w.start("\\M")
		for range 5 {
			w.step(n, 0, api.ThreadRunning)
		}
		w.space.Unload(table)
		w.finish(n, 0)
		if _, e := w.m.Result(n); e != api.ErrNotFound {
			t.Error(text, e)
		}
	}
	w := newWorld(t, "")
	table := w.load("Method (M, 0, 1, 0) {Return (Add (1, 2))}")
	n := w.start("\\M")
	w.space.Unload(table)
	w.finish(n, 0)
	if v, e := w.m.Result(n); v != num(3) || e != api.OK {
		t.Error("a frame whose method was removed", v, e)
	}
}
