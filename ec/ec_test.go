package ec

import (
	"testing"

	"platformfw/api"
)

const top = 1<<64 - 1

func controller(t *testing.T, delay uint64) *Controller {
	t.Helper()
	c, e := New(delay)
	if e != api.OK {
		t.Fatal(e)
	}
	return c
}

func equal(t *testing.T, what string, got, want any) {
	t.Helper()
	if got != want {
		t.Errorf("%s: got %v, want %v", what, got, want)
	}
}

// P10.1: limits, registers and queries.
func TestNewRaise(t *testing.T) {
	if c, e := New(api.MaxDelay + 1); c != nil || e != api.ErrInvalid {
		t.Error(e)
	}
	c := controller(t, api.MaxDelay)
	equal(t, "register", c.Register(7), byte(0))
	c.SetRegister(255, 9)
	equal(t, "register", c.Register(255), byte(9))
	equal(t, "zero", c.Raise(0), api.ErrInvalid)
	for i := range api.MaxQueries {
		equal(t, "raise", c.Raise(byte(i+1)), api.OK)
	}
	equal(t, "full", c.Raise(1), api.ErrFull)
	equal(t, "zero first", c.Raise(0), api.ErrInvalid)
	equal(t, "status", c.Status(0), byte(api.StatusEvent))
}

// P10.1: bytes take effect after the delay; others are lost meanwhile.
func TestProcessing(t *testing.T) {
	c := controller(t, 5)
	c.SetRegister(1, 11)
	c.WriteCommand(10, commandRead)
	equal(t, "busy", c.Status(14), byte(api.StatusInput))
	c.WriteData(14, 2)
	equal(t, "done", c.Status(15), byte(0))
	c.WriteData(15, 1)
	c.SetRegister(1, 12)
	equal(t, "no output yet", c.ReadData(19), byte(0))
	equal(t, "output", c.ReadData(20), byte(12))
	equal(t, "read once", c.ReadData(20), byte(0))
	c.WriteData(20, 1)
	equal(t, "ignored", c.Status(25), byte(0))
	c.WriteCommand(30, commandWrite)
	c.WriteData(3, 7)
	equal(t, "time does not decrease", c.Status(3), byte(api.StatusInput))
	c.WriteData(35, 7)
	c.WriteData(40, 8)
	equal(t, "not before a timed call", c.Register(7), byte(0))
	c.Status(45)
	equal(t, "written", c.Register(7), byte(8))
	c.WriteData(50, 9)
	c.Status(55)
	equal(t, "the command has ended", c.Register(7), byte(8))
}

// P10.1: commands replace commands, and output replaces output.
func TestCommands(t *testing.T) {
	c := controller(t, 0)
	c.SetRegister(3, 33)
	send := func(command bool, v byte) {
		if command {
			c.WriteCommand(0, v)
		} else {
			c.WriteData(0, v)
		}
	}
	send(true, commandWrite)
	send(false, 3)
	send(true, commandRead)
	send(false, 3)
	equal(t, "output", c.Status(0), byte(api.StatusOutput))
	c.Raise(77)
	send(true, commandQuery)
	equal(t, "replaced", c.ReadData(0), byte(77))
	send(true, commandQuery)
	equal(t, "empty queue", c.Status(0), byte(api.StatusOutput))
	equal(t, "empty queue", c.ReadData(0), byte(0))
	send(true, commandWrite)
	send(true, 0x55)
	send(false, 3)
	send(false, 4)
	c.Status(0)
	equal(t, "ended by another command", c.Register(3), byte(33))
	send(true, commandWrite)
	send(false, 3)
	send(true, commandQuery)
	send(false, 4)
	c.Status(0)
	equal(t, "ended by a query", c.Register(3), byte(33))
	late := controller(t, 9)
	late.WriteCommand(top-1, commandQuery)
	equal(t, "saturated", late.Status(top-1), byte(api.StatusInput))
	equal(t, "saturated", late.Status(top), byte(api.StatusOutput))
}

type result struct {
	v    byte
	done bool
	e    api.Errno
}

func step(x *Transaction, c *Controller, now uint64) result {
	v, done, e := x.Step(c, now)
	return result{v, done, e}
}

// P10.2: reads, writes and queries.
func TestTransactions(t *testing.T) {
	c := controller(t, 2)
	w := Write(9, 42, 0, 100)
	for now := range uint64(6) {
		equal(t, "write", step(w, c, now), result{})
	}
	equal(t, "write", step(w, c, 6), result{0, true, api.OK})
	equal(t, "written", c.Register(9), byte(42))
	r := Read(9, 10, 100)
	equal(t, "read", step(r, c, 10), result{})
	equal(t, "read", step(r, c, 12), result{})
	equal(t, "read", step(r, c, 13), result{})
	equal(t, "read", step(r, c, 14), result{42, true, api.OK})
	c.SetRegister(9, 1)
	equal(t, "again", step(r, c, 500), result{42, true, api.OK})
	c.Raise(5)
	q := Query(20, 100)
	equal(t, "query", step(q, c, 20), result{})
	equal(t, "query", step(q, c, 22), result{5, true, api.OK})
	fast := controller(t, 0)
	fast.Raise(8)
	fast.WriteCommand(0, commandQuery)
	fast.Raise(6)
	equal(t, "stale output is discarded", step(Query(0, 0), fast, 0), result{6, true, api.OK})
	equal(t, "at once", step(Write(1, 2, 0, 0), fast, 0), result{0, true, api.OK})
	equal(t, "at once", step(Read(1, 0, 0), fast, 0), result{2, true, api.OK})
}

// P10.2: timeouts.
func TestTimeout(t *testing.T) {
	c := controller(t, 10)
	r := Read(9, 0, 15)
	equal(t, "start", step(r, c, 0), result{})
	equal(t, "before", step(r, c, 14), result{})
	equal(t, "expired", step(r, c, 15), result{0, true, api.ErrTimeout})
	equal(t, "again", step(r, c, 0), result{0, true, api.ErrTimeout})
	late := Read(9, top, 5)
	equal(t, "saturated", step(late, controller(t, 1), top-1), result{})
	equal(t, "saturated", step(late, controller(t, 1), top), result{0, true, api.ErrTimeout})
	done := Read(0, 0, 20)
	d := controller(t, 10)
	step(done, d, 0)
	step(done, d, 10)
	equal(t, "ended at the deadline", step(done, d, 20), result{0, true, api.OK})
}
