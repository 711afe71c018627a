package iospace

import (
	"slices"
	"testing"

	"platformfw/api"
)

const top = 1<<64 - 1

func expect(t *testing.T, what string, got, want api.Errno) {
	t.Helper()
	if got != want {
		t.Errorf("%s: %d, want %d", what, got, want)
	}
}

func read(space int, addr uint64, width int) api.Access {
	return api.Access{Space: space, Addr: addr, Width: width}
}

func write(space int, addr uint64, width int, v uint64) api.Access {
	return api.Access{Space: space, Addr: addr, Width: width, Write: true, Value: v}
}

// P9.1: mappings and owners.
func TestMappings(t *testing.T) {
	b := New()
	for _, c := range []struct {
		space int
		m     api.Range
		owner int
		e     api.Errno
	}{
		{api.SpaceEC, api.Range{Base: 0, Len: 1}, 0, api.ErrInvalid}, {-1, api.Range{Base: 0, Len: 1}, 0, api.ErrInvalid}, {0, api.Range{}, 0, api.ErrInvalid}, {0, api.Range{Base: 0, Len: api.MaxRegion + 1}, 0, api.ErrInvalid},
		{0, api.Range{Base: top, Len: 2}, 0, api.ErrInvalid}, {0, api.Range{Base: 0, Len: 1}, -1, api.ErrInvalid}, {0, api.Range{Base: 0, Len: 1}, 256, api.ErrInvalid},
		{0, api.Range{Base: 16, Len: 16}, 3, api.OK}, {0, api.Range{Base: 31, Len: 1}, 3, api.ErrBusy}, {0, api.Range{Base: 0, Len: 17}, 3, api.ErrBusy}, {0, api.Range{Base: 0, Len: 100}, 3, api.ErrBusy}, {0, api.Range{Base: 20, Len: 1}, 3, api.ErrBusy},
		{0, api.Range{Base: 0, Len: 16}, 4, api.OK}, {0, api.Range{Base: 32, Len: 1}, 5, api.OK}, {1, api.Range{Base: 16, Len: 16}, 255, api.OK}, {2, api.Range{Base: top, Len: 1}, 0, api.OK}, {0, api.Range{Base: top - api.MaxRegion + 1, Len: api.MaxRegion}, 9, api.OK},
	} {
		expect(t, "map", b.Map(c.space, c.m, c.owner), c.e)
	}
	for _, c := range []struct {
		space int
		addr  uint64
		owner int
	}{{0, 0, 4}, {0, 15, 4}, {0, 16, 3}, {0, 31, 3}, {0, 32, 5}, {0, 33, -1}, {1, 16, 255}, {1, 15, -1}, {2, top, 0}, {0, top, 9}, {3, 0, -1}, {-1, 0, -1}} {
		if got := b.Owner(c.space, c.addr); got != c.owner {
			t.Error(c, got)
		}
	}
	expect(t, "other range", b.Unmap(0, api.Range{Base: 16, Len: 15}), api.ErrNotFound)
	expect(t, "inside", b.Unmap(0, api.Range{Base: 17, Len: 15}), api.ErrNotFound)
	expect(t, "space", b.Unmap(9, api.Range{Base: 16, Len: 16}), api.ErrNotFound)
	b.Poke(0, 16, 7)
	expect(t, "unmap", b.Unmap(0, api.Range{Base: 16, Len: 16}), api.OK)
	expect(t, "unmap again", b.Unmap(0, api.Range{Base: 16, Len: 16}), api.ErrNotFound)
	expect(t, "map again", b.Map(0, api.Range{Base: 16, Len: 16}, 1), api.OK)
	if v, ok := b.Peek(0, 16); v != 0 || !ok {
		t.Error("storage survives")
	}
	for i := 6; i < api.MaxMappings; i++ {
		expect(t, "fill", b.Map(1, api.Range{Base: uint64(1000 + i), Len: 1}, 0), api.OK)
	}
	expect(t, "full", b.Map(1, api.Range{Base: 1, Len: 1}, 0), api.ErrFull)
	expect(t, "busy before full", b.Map(1, api.Range{Base: 1006, Len: 1}, 0), api.ErrBusy)
	expect(t, "owner", b.Enable(256, true), api.ErrInvalid)
	expect(t, "owner", b.Enable(-1, true), api.ErrInvalid)
	expect(t, "owner", b.Enable(255, true), api.OK)
	if !b.Enabled(255) || b.Enabled(0) || b.Enabled(-1) || b.Enabled(256) {
		t.Error("enabled")
	}
}

// P9.2 and P9.3: planned faults.
func TestFaults(t *testing.T) {
	b := New()
	b.Map(0, api.Range{Base: 0, Len: 64}, 1)
	expect(t, "space", b.PlanFault(3, api.Range{Base: 0, Len: 1}, 1), api.ErrInvalid)
	expect(t, "range", b.PlanFault(0, api.Range{Base: 0, Len: 0}, 1), api.ErrInvalid)
	expect(t, "count", b.PlanFault(0, api.Range{Base: 0, Len: 1}, 0), api.ErrInvalid)
	expect(t, "count", b.PlanFault(0, api.Range{Base: 0, Len: 1}, 65), api.ErrInvalid)
	expect(t, "plan", b.PlanFault(0, api.Range{Base: 3, Len: 1}, 2), api.OK)
	expect(t, "plan", b.PlanFault(0, api.Range{Base: 0, Len: 8}, 1), api.OK)
	access := func(a api.Access, want api.Errno) { t.Helper(); _, e := b.Access(a); expect(t, "access", e, want) }
	access(read(0, 0, 4), api.OK)
	b.Enable(1, true)
	access(read(0, 8, 4), api.OK)
	access(write(0, 0, 4, 1<<40|5), api.ErrFault)
	access(read(0, 0, 1), api.ErrFault)
	access(read(0, 0, 1), api.OK)
	access(read(0, 2, 2), api.ErrFault)
	access(read(0, 2, 2), api.OK)
	l := b.TakeTrace()
	if len(l) != 7 || l[2].Access.Value != 5 || !l[2].Failed || !l[2].Live || l[3].Access.Value != 0 || l[0].Failed || l[0].Live {
		t.Error(l)
	}
	if v, _ := b.Peek(0, 0); v != 0 {
		t.Error("a failed write has an effect")
	}
	for range api.MaxFaults {
		expect(t, "plan", b.PlanFault(1, api.Range{Base: 0, Len: 1}, 1), api.OK)
	}
	expect(t, "too many", b.PlanFault(1, api.Range{Base: 0, Len: 1}, 1), api.ErrFull)
	expect(t, "invalid first", b.PlanFault(1, api.Range{}, 1), api.ErrInvalid)
	b.Map(1, api.Range{Base: 0, Len: 1}, 1)
	access(read(1, 0, 1), api.ErrFault)
	expect(t, "one is used up", b.PlanFault(1, api.Range{Base: 0, Len: 1}, 1), api.OK)
}

// P9.3: live and dead accesses, and the trace.
func TestAccess(t *testing.T) {
	b := New()
	b.Map(1, api.Range{Base: 96, Len: 8}, 3)
	b.Map(1, api.Range{Base: 104, Len: 2}, 3)
	do := func(a api.Access, want uint64) {
		t.Helper()
		if v, e := b.Access(a); v != want || e != api.OK {
			t.Error(a, v, e)
		}
	}
	do(read(1, 96, 1), 255)
	do(write(1, 96, 2, 0x12345), 0)
	b.Enable(3, true)
	do(read(1, 96, 1), 0)
	do(write(1, 96, 8, 0x1122334455667788), 0)
	do(write(1, 98, 2, 0xABCDEF), 0)
	do(read(1, 96, 8), 0x11223344CDEF7788)
	do(read(1, 97, 1), 0x77)
	do(read(1, 104, 4), 1<<32-1)
	do(read(0, 0, 8), top)
	do(read(1, top-7, 8), top)
	for _, a := range []api.Access{read(3, 0, 1), read(-1, 0, 1), read(0, 0, 3), read(0, 0, 0), read(0, 0, -1), read(0, 1, 2), read(0, 4, 8)} {
		_, e := b.Access(a)
		expect(t, "malformed", e, api.ErrInvalid)
	}
	l := b.TakeTrace()
	want := []api.Traced{{Access: api.Access{Space: 1, Addr: 96, Width: 1, Value: 255}, Owner: 3}, {Access: write(1, 96, 2, 0x2345), Owner: 3}, {Access: read(1, 96, 1), Owner: 3, Live: true}}
	if len(l) != 10 || !slices.Equal(l[:3], want) || l[7].Owner != 3 || l[7].Live || l[8].Owner != -1 || b.TakeTrace() != nil {
		t.Error(l)
	}
	for range api.MaxTrace {
		b.Access(read(1, 96, 1))
	}
	v, e := b.Access(write(1, 96, 1, 1))
	expect(t, "full trace", e, api.ErrFull)
	_, e = b.Access(read(1, 97, 2))
	expect(t, "invalid first", e, api.ErrInvalid)
	if w, _ := b.Peek(1, 96); v != 0 || w != 0x88 || len(b.TakeTrace()) != api.MaxTrace {
		t.Error("refused access has an effect")
	}
}

// P9.4: direct access to the storage.
func TestPeekPoke(t *testing.T) {
	b := New()
	b.Map(2, api.Range{Base: 5, Len: 2}, 3)
	if !b.Poke(2, 6, 9) || b.Poke(2, 7, 9) || b.Poke(2, 4, 9) || b.Poke(1, 6, 9) || b.Poke(3, 6, 9) {
		t.Error("poke")
	}
	v, ok := b.Peek(2, 6)
	if w, missing := b.Peek(2, 7); v != 9 || !ok || w != 0 || missing || b.TakeTrace() != nil {
		t.Error("peek")
	}
}
