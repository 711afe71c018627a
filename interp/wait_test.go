package interp

import (
	"slices"
	"testing"

	"platformfw/api"
)

// P16.2: sleeping.
func TestSleep(t *testing.T) {
	w := newWorld(t, "Method (M, 1, 0, 0) {Sleep (Arg0) Return (1)}")
	n := w.start("\\M", num(5))
	w.step(n, 10, api.ThreadRunning)
	w.step(n, 10, api.ThreadRunning)
	w.step(n, 10, api.ThreadBlocked)
	s, _ := w.m.Snapshot(n)
	if s.Frames[0].Next != 2 || s.Frames[0].Depth != 0 {
		t.Error(s)
	}
	w.step(n, 14, api.ThreadBlocked)
	w.step(n, 15, api.ThreadRunning)
	s, _ = w.m.Snapshot(n)
	if s.Frames[0].Next != 2 || s.Frames[0].Depth != 0 {
		t.Error("noticing the end does nothing else", s)
	}
	w.step(n, 15, api.ThreadRunning)
	w.step(n, 15, api.ThreadDone)
	n = w.start("\\M", num(0))
	w.step(n, 1, api.ThreadRunning)
	w.step(n, 1, api.ThreadRunning)
	w.step(n, 1, api.ThreadBlocked)
	w.step(n, 1, api.ThreadRunning)
	n = w.start("\\M", num(yes))
	w.step(n, 1, api.ThreadRunning)
	w.step(n, 1, api.ThreadRunning)
	w.step(n, 1, api.ThreadBlocked)
	w.step(n, yes-1, api.ThreadBlocked)
	w.step(n, yes, api.ThreadRunning)
}

// P16.2: waiting for mutexes and events.
func TestSync(t *testing.T) {
	w := newWorld(t, "Mutex (MU, 0) Event (EV) Method (A, 0, 0, 0) {Acquire (MU, 0xFFFF) Sleep (100) Release (MU)} Method (B, 0, 0, 0) {Return (Acquire (MU, 10))} Method (C, 0, 0, 0) {Return (Wait (EV, 10))} Method (D, 0, 0, 0) {Signal (EV)}")
	a := w.start("\\A")
	for range 4 {
		w.step(a, 0, api.ThreadRunning)
	}
	w.step(a, 0, api.ThreadBlocked)
	b, b2, c := w.start("\\B"), w.start("\\B"), w.start("\\C")
	for _, n := range []int{b, c} {
		w.step(n, 0, api.ThreadRunning)
	}
	w.step(c, 0, api.ThreadRunning)
	w.step(b, 0, api.ThreadBlocked)
	w.step(c, 0, api.ThreadBlocked)
	w.step(b, 9, api.ThreadBlocked)
	d := w.start("\\D")
	w.step(d, 9, api.ThreadRunning)
	w.step(d, 9, api.ThreadRunning)
	w.step(c, 9, api.ThreadRunning)
	w.step(c, 9, api.ThreadDone)
	if v, _ := w.m.Result(c); v != num(0) {
		t.Error("signalled", v)
	}
	w.step(d, 10, api.ThreadDone) // the wait of b ends by this step
	w.step(b, 10, api.ThreadRunning)
	s, _ := w.m.Snapshot(b)
	if !slices.Equal(s.Stack, []api.Value{num(yes)}) || s.Frames[0].Next != 1 {
		t.Error(s)
	}
	w.step(b, 10, api.ThreadDone)
	w.step(b2, 95, api.ThreadRunning)
	w.step(b2, 95, api.ThreadBlocked)
	w.step(a, 100, api.ThreadRunning)
	w.step(a, 100, api.ThreadRunning)
	w.step(b2, 100, api.ThreadRunning)
	w.step(b2, 100, api.ThreadDone)
	if v, _ := w.m.Result(b2); v != num(0) {
		t.Error("acquired", v)
	}
	if v, _, _ := w.run("\\B"); v != num(0) {
		t.Error("a thread that ends releases its mutexes", v)
	}
}

// P16.2 and P16.3: serialized methods.
func TestSerialized(t *testing.T) {
	w := newWorld(t, "Mutex (MU, 5) Method (S, 1, 1, 3) {If (Arg0) {Return (S (0))} Return (7)} Method (HIGH, 0, 0, 0) {Acquire (MU, 0) Return (S (0))} Method (IN, 0, 1, 3) {Acquire (MU, 0)} Method (FAIL, 0, 1, 0) {Return (NONE)}")
	if v, e, _ := w.run("\\S", num(1)); v != num(7) || e != api.OK {
		t.Error("recursion", v, e)
	}
	a, b := w.start("\\S", num(0)), w.start("\\S", num(0))
	w.step(a, 0, api.ThreadRunning)
	w.step(b, 0, api.ThreadBlocked)
	w.step(b, 1<<40, api.ThreadBlocked)
	w.finish(a, 0)
	w.step(b, 1, api.ThreadRunning)
	s, _ := w.m.Snapshot(b)
	if s.Frames[0].Next != 0 || s.Frames[0].Depth != 0 {
		t.Error(s)
	}
	w.step(b, 1, api.ThreadRunning)
	if _, e, _ := w.run("\\HIGH"); e != api.ErrDenied {
		t.Error("entry against the levels", e)
	}
	w.finish(b, 1)
	if _, e, _ := w.run("\\IN"); e != api.ErrDenied {
		t.Error("return with a higher mutex", e)
	}
	w.run("\\FAIL")
	if _, e, steps := w.run("\\FAIL"); e != api.ErrNotFound || steps != 2 {
		t.Error("a failed thread releases its mutexes", e, steps)
	}
}

const regions = `OperationRegion (MEM, 0, 16, 16) OperationRegion (IO, 1, 8, 8) OperationRegion (EC, 3, 0, 32)
Field (MEM, 2, 0) {Unit (LOW, 4) Unit (MID, 24) Skip (36) Unit (WIDE, 64)}
Field (MEM, 4, 1) {Unit (ONES, 4)}
Field (IO, 1, 0) {Unit (IX, 8) Unit (DT, 8) Unit (FAR, 8)}
IndexField (IX, DT, 1, 0) {Skip (8) Unit (PART, 4) Unit (BIG, 12)}
Field (EC, 1, 0) {Unit (E0, 8) Unit (E1, 4) Unit (E2, 12)}
IndexField (E0, DT, 1, 0) {Unit (BAD1, 8)} IndexField (IX, PART, 1, 0) {Unit (BAD2, 8)}
`

// P16.3: fields in memory and ports.
func TestDirectFields(t *testing.T) {
	w := newWorld(t, regions+"Method (W, 1, 0, 0) {Store (Arg0, MID) Return (MID)} Method (O, 0, 0, 0) {Store (2, ONES)} Method (B, 0, 0, 0) {Store (\"abcdefgh\", WIDE) Return (DerefOf (RefOf (WIDE)))} Method (X, 0, 0, 0) {Store (Package (0) {}, LOW)} Method (Y, 0, 0, 0) {Store (9, DerefOf (RefOf (LOW)))}")
	w.bus.Poke(0, 16, 0xF5)
	w.bus.Poke(0, 19, 0xA0)
	w.bus.TakeTrace()
	if v, e, _ := w.run("\\W", num(0x123456)); v != num(0x123456) || e != api.OK {
		t.Error(v, e)
	}
	var got []api.Access
	for _, x := range w.bus.TakeTrace() {
		got = append(got, x.Access)
	}
	want := []api.Access{{Addr: 16, Width: 2, Value: 0xF5}, {Addr: 16, Width: 2, Write: true, Value: 0x4565}, {Addr: 18, Width: 2, Value: 0xA000}, {Addr: 18, Width: 2, Write: true, Value: 0xA123}, {Addr: 16, Width: 2, Value: 0x4565}, {Addr: 18, Width: 2, Value: 0xA123}}
	if !slices.Equal(got, want) {
		t.Error(got)
	}
	w.run("\\O")
	if l := w.bus.TakeTrace(); len(l) != 1 || l[0].Access.Value != 0xFFFFFFF2 {
		t.Error(l)
	}
	if v, e, _ := w.run("\\B"); v != num(0x6867666564636261) || e != api.OK {
		t.Error(v, e)
	}
	if _, e, _ := w.run("\\X"); e != api.ErrType {
		t.Error(e)
	}
	if _, e, _ := w.run("\\Y"); e != api.OK {
		t.Error(e)
	}
	w.bus.PlanFault(0, api.Range{Base: 18, Len: 1}, 1)
	w.bus.TakeTrace()
	if _, e, _ := w.run("\\W", num(1)); e != api.ErrFault {
		t.Error(e)
	}
	if l := w.bus.TakeTrace(); len(l) != 3 {
		t.Error("the error ends the access", l)
	}
}

// P16.3: fields with an index field.
func TestIndexFields(t *testing.T) {
	w := newWorld(t, regions+"Method (M, 0, 0, 0) {Store (0xABC, BIG) Return (PART)} Method (X, 0, 0, 0) {Return (BAD1)} Method (Y, 0, 0, 0) {Store (1, BAD2)}")
	w.bus.Poke(1, 9, 0x75)
	w.bus.TakeTrace()
	if v, e, _ := w.run("\\M"); v != num(0xB) || e != api.OK {
		t.Error(v, e)
	}
	var got []uint64
	for _, x := range w.bus.TakeTrace() {
		n := x.Access.Addr<<16 | x.Access.Value
		if x.Access.Write {
			n |= 1 << 32
		}
		got = append(got, n)
	}
	const wr = 1 << 32
	want := []uint64{wr | 8<<16 | 1, 9<<16 | 0x75, wr | 8<<16 | 1, wr | 9<<16 | 0xC5, wr | 8<<16 | 2, wr | 9<<16 | 0xAB, wr | 8<<16 | 1, 9<<16 | 0xAB}
	if !slices.Equal(got, want) {
		t.Errorf("%x", got)
	}
	for _, path := range []string{"\\X", "\\Y"} {
		if _, e, _ := w.run(path); e != api.ErrType || len(w.bus.TakeTrace()) != 0 {
			t.Error(path, e)
		}
	}
}

// P16.2 and P16.3: fields of the embedded controller.
func TestControllerFields(t *testing.T) {
	w := newWorld(t, regions+"Method (R, 0, 0, 0) {Return (E2)} Method (W, 0, 0, 0) {Store (0xABC, E2)} Method (X, 0, 0, 0) {Store (Package (0) {}, E0)}")
	w.ctl.SetRegister(1, 0x57)
	w.ctl.SetRegister(2, 0x34)
	n := w.start("\\R")
	w.step(n, 0, api.ThreadRunning)
	w.step(n, 0, api.ThreadBlocked) // the first transaction is started
	s, _ := w.m.Snapshot(n)
	if s.Frames[0].Next != 1 || s.Frames[0].Depth != 0 {
		t.Error(s)
	}
	w.step(n, 0, api.ThreadBlocked)
	w.step(n, 2, api.ThreadBlocked)
	w.step(n, 4, api.ThreadBlocked) // the second one is started
	w.step(n, 4, api.ThreadBlocked)
	w.step(n, 6, api.ThreadBlocked)
	w.step(n, 8, api.ThreadRunning)
	s, _ = w.m.Snapshot(n)
	if !slices.Equal(s.Stack, []api.Value{num(0x345)}) {
		t.Error(s)
	}
	n = w.start("\\W")
	w.step(n, 10, api.ThreadRunning)
	w.step(n, 10, api.ThreadRunning)
	steps := 0
	for steps < 100 && w.m.Step(n, uint64(20+2*steps)) == api.ThreadBlocked {
		steps++
	}
	if w.ctl.Register(1) != 0xC7 || w.ctl.Register(2) != 0xAB || steps != 1+3+4+4-1 {
		t.Errorf("%x %x %d", w.ctl.Register(1), w.ctl.Register(2), steps)
	}
	w.step(n, 50, api.ThreadDone)
	n = w.start("\\R")
	w.step(n, 100, api.ThreadRunning)
	w.step(n, 100, api.ThreadBlocked)
	w.step(n, 1100, api.ThreadFailed)
	if _, e := w.m.Result(n); e != api.ErrTimeout {
		t.Error(e)
	}
	if _, e, _ := w.run("\\X"); e != api.ErrType {
		t.Error(e)
	}
}
