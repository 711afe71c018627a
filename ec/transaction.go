package ec

import "platformfw/api"

// Phases of a transaction.
const (
	phaseCommand = iota
	phaseAddress
	phaseValue
	phaseOutput
	phaseFinish
	phaseEnded
	phaseFailed
)

// Transaction is a read, a write or a query that is performed step by step.
type Transaction struct {
	command  byte
	address  byte
	value    byte
	deadline uint64
	phase    int
	result   byte
}

// Read returns a transaction that reads a register.
func Read(addr byte, start, timeout uint64) *Transaction {
	return &Transaction{command: commandRead, address: addr, deadline: later(start, timeout)}
}

// Write returns a transaction that writes a register.
func Write(addr, v byte, start, timeout uint64) *Transaction {
	return &Transaction{command: commandWrite, address: addr, value: v, deadline: later(start, timeout)}
}

// Query returns a transaction that fetches a query number.
func Query(start, timeout uint64) *Transaction {
	return &Transaction{command: commandQuery, deadline: later(start, timeout)}
}

// Step continues a transaction as far as the controller permits. It returns the result and true when the transaction has ended.
func (t *Transaction) Step(c *Controller, now uint64) (byte, bool, api.Errno) {
	for t.phase < phaseEnded && t.act(c, now) {
	}
	if t.phase < phaseEnded && now >= t.deadline {
		t.phase = phaseFailed
	}
	switch t.phase {
	case phaseEnded:
		return t.result, true, api.OK
	case phaseFailed:
		return 0, true, api.ErrTimeout
	}
	return 0, false, api.OK
}

// act performs one action, and returns false if none is possible now.
func (t *Transaction) act(c *Controller, now uint64) bool {
	status := c.Status(now)
	if status&api.StatusInput != 0 {
		return false
	}
	switch t.phase {
	case phaseCommand:
		if status&api.StatusOutput != 0 {
			c.ReadData(now)
			return true
		}
		c.WriteCommand(now, t.command)
		t.phase = phaseAddress
		if t.command == commandQuery {
			t.phase = phaseOutput
		}
	case phaseAddress:
		c.WriteData(now, t.address)
		t.phase = phaseOutput
		if t.command == commandWrite {
			t.phase = phaseValue
		}
	case phaseValue:
		c.WriteData(now, t.value)
		t.phase = phaseFinish
	case phaseOutput:
		if status&api.StatusOutput == 0 {
			return false
		}
		t.result = c.ReadData(now)
		t.phase = phaseEnded
	case phaseFinish:
		t.phase = phaseEnded
	}
	return true
}
