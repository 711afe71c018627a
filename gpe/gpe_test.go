package gpe

import (
	"testing"

	"platformfw/api"
)

func expect(t *testing.T, what string, got, want any) {
	t.Helper()
	if got != want {
		t.Errorf("%s: got %v, want %v", what, got, want)
	}
}

// P17.1: creation, and events that do not exist.
func TestNew(t *testing.T) {
	for _, n := range []int{0, 65} {
		if b, e := New(make([]bool, n)); b != nil || e != api.ErrInvalid {
			t.Error(n, e)
		}
	}
	b, e := New(make([]bool, 64))
	expect(t, "largest", e, api.OK)
	for _, i := range []int{-1, 64} {
		_, e := b.Begin(i)
		if b.Set(i, true) != api.ErrNotFound || b.Enable(i, true) != api.ErrNotFound || b.EnableWake(i, true) != api.ErrNotFound || b.Complete(i) != api.ErrNotFound || e != api.ErrNotFound || b.Status(i) {
			t.Error(i)
		}
	}
	b.Set(63, true)
	b.Enable(63, true)
	name, e := b.Begin(63)
	expect(t, "last", name, "_E3F")
	expect(t, "last", e, api.OK)
}

// P17.1 and P17.2: edge-triggered events.
func TestEdge(t *testing.T) {
	b, _ := New([]bool{false, false, true})
	b.Set(1, true)
	_, e := b.Begin(1)
	expect(t, "not enabled", e, api.ErrState)
	_, ok := b.Next()
	expect(t, "not enabled", ok, false)
	b.Enable(1, true)
	n, ok := b.Next()
	expect(t, "next", n == 1 && ok, true)
	name, e := b.Begin(1)
	expect(t, "name", name, "_E01")
	expect(t, "cleared", b.Status(1), false)
	b.Set(1, true)
	expect(t, "no edge", b.Status(1), false)
	b.Set(1, false)
	b.Set(1, true)
	expect(t, "edge while handled", b.Status(1), true)
	_, ok = b.Next()
	expect(t, "being handled", ok, false)
	_, e = b.Begin(1)
	expect(t, "being handled", e, api.ErrState)
	expect(t, "complete", b.Complete(1), api.OK)
	expect(t, "complete again", b.Complete(1), api.ErrState)
	expect(t, "remains pending", b.Status(1), true)
	b.Set(1, false)
	expect(t, "Set never clears", b.Status(1), true)
}

// P17.1 and P17.2: level-triggered events.
func TestLevel(t *testing.T) {
	b, _ := New([]bool{true, true})
	b.Enable(0, true)
	b.Enable(1, true)
	b.Set(1, true)
	b.Set(0, true)
	n, _ := b.Next()
	expect(t, "smallest", n, 0)
	name, _ := b.Begin(0)
	expect(t, "name", name, "_L00")
	expect(t, "status stays", b.Status(0), true)
	n, _ = b.Next()
	expect(t, "other", n, 1)
	b.Set(0, false)
	b.Complete(0)
	expect(t, "line is low", b.Status(0), false)
	b.Begin(1)
	b.Complete(1)
	expect(t, "line is high", b.Status(1), true)
	b.Begin(1)
	b.Set(1, false)
	b.Complete(1)
	b.Begin(1)
	b.Set(1, true)
	b.Set(1, false)
	expect(t, "pulse is remembered", b.Status(1), true)
	b.Enable(1, false)
	_, ok := b.Next()
	expect(t, "disabled", ok, false)
}

// P17.3: wake events.
func TestWake(t *testing.T) {
	b, _ := New([]bool{false, false})
	b.EnableWake(1, true)
	b.Set(0, true)
	expect(t, "other event", b.WakePending(), false)
	b.Set(1, true)
	expect(t, "pending", b.WakePending(), true)
	b.EnableWake(1, false)
	expect(t, "disabled", b.WakePending(), false)
}
