package resume

import (
	"slices"
	"testing"

	"platformfw/api"
)

func links(pairs ...int) []api.Link {
	var l []api.Link
	for i := 0; i < len(pairs); i += 2 {
		l = append(l, api.Link{Consumer: pairs[i], Supplier: pairs[i+1]})
	}
	return l
}

func slot(d, w int, start, end uint64) api.Slot {
	return api.Slot{Device: d, Worker: w, Start: start, End: end}
}

// P31.1: input errors, in their order.
func TestInputErrors(t *testing.T) {
	for i, c := range []struct {
		n       int
		l       []api.Link
		d       []uint64
		workers int
		e       api.Errno
		path    api.Errno
	}{
		{-1, nil, nil, 1, api.ErrInvalid, api.ErrInvalid}, {2, links(0, 1, 0, 1), nil, 0, api.ErrDuplicate, api.ErrDuplicate}, {2, links(0, 1, 1, 0), nil, 0, api.ErrCycle, api.ErrCycle}, {2, nil, make([]uint64, 1), 1, api.ErrInvalid, api.ErrInvalid}, {1, nil, []uint64{api.MaxTime/128 + 1}, 1, api.ErrInvalid, api.ErrInvalid}, {1, nil, []uint64{api.MaxTime / 128}, 16, 0, 0},
		{0, nil, nil, 0, api.ErrInvalid, 0}, {0, nil, nil, 17, api.ErrInvalid, 0}, {0, nil, nil, -1, api.ErrInvalid, 0},
	} {
		s, e1 := Schedule(c.n, c.l, c.d, c.workers)
		_, e2 := CriticalPath(c.n, c.l, c.d)
		if e1 != c.e || e1 != 0 && s != nil || e2 != c.path || c.e != 0 && Verify(c.n, c.l, c.d, c.workers, nil) != c.e {
			t.Error(i, e1, e2)
		}
	}
}

// P31.2: list scheduling.
func TestSchedule(t *testing.T) {
	for i, c := range []struct {
		l       []api.Link
		d       []uint64
		workers int
		want    []api.Slot
	}{
		{links(2, 0), []uint64{3, 2, 4}, 2, []api.Slot{slot(0, 0, 0, 3), slot(1, 1, 0, 2), slot(2, 0, 3, 7)}}, {links(0, 2), []uint64{1, 5, 2}, 2, []api.Slot{slot(1, 0, 0, 5), slot(2, 1, 0, 2), slot(0, 1, 2, 3)}},
		{links(1, 0), []uint64{0, 0, 4, 1}, 1, []api.Slot{slot(0, 0, 0, 0), slot(1, 0, 0, 0), slot(2, 0, 0, 4), slot(3, 0, 4, 5)}}, {nil, nil, 3, nil}, {nil, []uint64{2, 2, 2}, 2, []api.Slot{slot(0, 0, 0, 2), slot(1, 1, 0, 2), slot(2, 0, 2, 4)}},
	} {
		got, e := Schedule(len(c.d), c.l, c.d, c.workers)
		if !slices.Equal(got, c.want) || e != api.OK || Verify(len(c.d), c.l, c.d, c.workers, got) != api.OK {
			t.Error(i, got, e)
		}
	}
}

// P31.3: verifying arbitrary schedules.
func TestVerify(t *testing.T) {
	l, d := links(2, 0), []uint64{3, 2, 4}
	for i, c := range []struct {
		s []api.Slot
		e api.Errno
	}{
		{[]api.Slot{slot(2, 0, 10, 14), slot(0, 1, 5, 8), slot(1, 1, 8, 10)}, 0}, {nil, api.ErrInvalid}, {[]api.Slot{slot(0, 0, 0, 3), slot(1, 1, 0, 2)}, api.ErrInvalid}, {[]api.Slot{slot(0, 0, 0, 3), slot(1, 1, 0, 2), slot(1, 1, 2, 4)}, api.ErrInvalid}, {[]api.Slot{slot(0, 0, 0, 3), slot(1, 2, 0, 2), slot(2, 0, 3, 7)}, api.ErrInvalid}, {[]api.Slot{slot(0, -1, 0, 3), slot(1, 1, 0, 2), slot(2, 0, 3, 7)}, api.ErrInvalid},
		{[]api.Slot{slot(0, 0, 0, 3), slot(3, 1, 0, 2), slot(2, 0, 3, 7)}, api.ErrInvalid}, {[]api.Slot{slot(0, 0, 0, 4), slot(1, 1, 0, 2), slot(2, 0, 4, 8)}, api.ErrInvalid}, {[]api.Slot{slot(0, 0, 1<<64-2, 1), slot(1, 1, 0, 2), slot(2, 0, 4, 8)}, api.ErrInvalid},
		{[]api.Slot{slot(0, 0, 0, 3), slot(1, 0, 2, 4), slot(2, 1, 0, 4)}, api.ErrBusy}, {[]api.Slot{slot(0, 0, 0, 3), slot(1, 1, 0, 2), slot(2, 1, 2, 6)}, api.ErrState},
	} {
		if e := Verify(3, l, d, 2, c.s); e != c.e {
			t.Error(i, e)
		}
	}
	if e := Verify(2, nil, []uint64{0, 4}, 1, []api.Slot{slot(0, 0, 2, 2), slot(1, 0, 0, 4)}); e != api.ErrBusy {
		t.Error("an empty slot inside another one", e)
	}
	if e := Verify(2, nil, []uint64{0, 4}, 1, []api.Slot{slot(0, 0, 4, 4), slot(1, 0, 0, 4)}); e != api.OK {
		t.Error(e)
	}
}

// P31.4: the critical path and the makespan.
func TestPath(t *testing.T) {
	if got, _ := CriticalPath(3, links(2, 0), []uint64{3, 2, 4}); got != 7 {
		t.Error(got)
	}
	if got, _ := CriticalPath(4, links(0, 1, 0, 2, 2, 3), []uint64{1, 9, 2, 6}); got != 10 {
		t.Error(got)
	}
	if got, e := CriticalPath(0, nil, nil); got != 0 || e != 0 {
		t.Error(got, e)
	}
	if Makespan(nil) != 0 || Makespan([]api.Slot{slot(0, 0, 0, 9), slot(1, 0, 2, 3)}) != 9 {
		t.Error("makespan")
	}
}
