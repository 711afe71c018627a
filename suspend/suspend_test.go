package suspend

import (
	"slices"
	"testing"

	"platformfw/api"
)

func ops(pairs ...int) []api.SleepOp {
	var l []api.SleepOp
	for i := 0; i < len(pairs); i += 2 {
		l = append(l, api.SleepOp{Phase: pairs[i], Device: pairs[i+1]})
	}
	return l
}

func sequence(t *testing.T, order ...int) *Sequence {
	t.Helper()
	s, e := New(order)
	if e != api.OK {
		t.Fatal(e)
	}
	return s
}

func complete(t *testing.T, s *Sequence, n int) {
	t.Helper()
	for range n {
		if e := s.Complete(api.OK); e != api.OK {
			t.Error(e)
		}
	}
}

func result(t *testing.T, s *Sequence, want api.Errno, finished bool) {
	t.Helper()
	if e, ok := s.Result(); e != want || ok != finished {
		t.Error(e, ok)
	}
}

// P30.1: orders.
func TestNew(t *testing.T) {
	long := make([]int, 65)
	for i := range long {
		long[i] = i
	}
	for i, order := range [][]int{{1}, {-1}, {0, 0}, {0, 2}, long} {
		if s, e := New(order); s != nil || e != api.ErrInvalid || Trace(order, nil) != nil {
			t.Error(i, e)
		}
	}
	sequence(t, long[:64]...)
	s := sequence(t)
	if _, ok := s.Next(); ok || !s.Asleep() || s.Complete(api.OK) != api.ErrState || s.Abort() != api.ErrState {
		t.Error("empty order")
	}
	if s.Wake() != api.OK || s.Asleep() || s.Wake() != api.ErrState {
		t.Error("wake")
	}
	result(t, s, api.OK, true)
}

// P30.2, P30.5 and P30.7: the order of operations.
func TestTrace(t *testing.T) {
	want := ops(1, 0, 1, 1, 2, 1, 2, 0, 3, 1, 3, 0, 4, 1, 4, 0, 5, 0, 5, 1, 6, 0, 6, 1, 7, 0, 7, 1, 8, 1, 8, 0)
	if got := Trace([]int{0, 1}, nil); !slices.Equal(got, want) {
		t.Error(got)
	}
	if got := Trace([]int{0, 1}, []api.Errno{0, 0, 0, api.ErrBusy}); !slices.Equal(got, append(want[:4:4], ops(7, 1, 8, 1, 8, 0)...)) {
		t.Error(got)
	}
	if got := Trace([]int{1, 0}, []api.Errno{0, 0, 0, 0, 0, api.ErrFault, api.ErrBusy}); !slices.Equal(got, ops(1, 1, 1, 0, 2, 0, 2, 1, 3, 0, 3, 1, 6, 0, 7, 1, 7, 0, 8, 0, 8, 1)) {
		t.Error(got)
	}
	if got := Trace([]int{0, 1}, []api.Errno{api.ErrBusy}); !slices.Equal(got, ops(1, 0)) {
		t.Error(got)
	}
	if got := Trace([]int{0, 1}, []api.Errno{0, api.ErrBusy}); !slices.Equal(got, ops(1, 0, 1, 1, 8, 0)) {
		t.Error(got)
	}
}

// P30.2 to P30.6: results.
func TestResults(t *testing.T) {
	s := sequence(t, 0)
	a, _ := s.Next()
	b, ok := s.Next()
	if a != b || !ok || a != (api.SleepOp{Phase: 1, Device: 0}) || s.Wake() != api.ErrState {
		t.Error(a, b)
	}
	complete(t, s, 4)
	if _, ok := s.Next(); ok || !s.Asleep() || s.Complete(api.OK) != api.ErrState || s.Abort() != api.ErrState {
		t.Error("asleep")
	}
	result(t, s, api.OK, false)
	s.Wake()
	complete(t, s, 1)
	if s.Abort() != api.ErrState || s.Wake() != api.ErrState {
		t.Error("while undoing")
	}
	s.Complete(api.ErrFault)
	s.Complete(api.ErrBusy)
	result(t, s, api.OK, false)
	s.Complete(api.OK)
	result(t, s, api.ErrFault, true)
	if s.Complete(api.OK) != api.ErrState || s.Abort() != api.ErrState || s.Asleep() {
		t.Error("finished")
	}
	s = sequence(t, 0)
	complete(t, s, 1)
	s.Complete(api.ErrBusy)
	s.Complete(api.ErrFault)
	result(t, s, api.ErrBusy, true)
}

// P30.4: aborting.
func TestAbort(t *testing.T) {
	s := sequence(t, 0, 1)
	complete(t, s, 3)
	if s.Abort() != api.OK || s.Abort() != api.ErrState {
		t.Error("abort")
	}
	for _, want := range ops(7, 1, 8, 1, 8, 0) {
		if op, _ := s.Next(); op != want {
			t.Error(op, want)
		}
		complete(t, s, 1)
	}
	result(t, s, api.ErrAborted, true)
	s = sequence(t, 0)
	s.Abort()
	result(t, s, api.ErrAborted, true)
}
