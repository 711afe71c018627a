package hibernate

import "platformfw/api"

// States of a freezer.
const (
	running = iota
	freezing
	frozen
)

// Freezer freezes processes. Ends holds the time at which the section of each process ends.
type Freezer struct {
	state    int
	ends     []uint64
	deadline uint64
	clock    uint64
}

// NewFreezer returns a running freezer.
func NewFreezer(processes int) (*Freezer, api.Errno) {
	if processes < 0 || processes > api.MaxProcesses {
		return nil, api.ErrInvalid
	}
	return &Freezer{ends: make([]uint64, processes)}, api.OK
}

func (f *Freezer) has(process int) bool { return process >= 0 && process < len(f.ends) }

func (f *Freezer) validTime(now uint64) bool { return now >= f.clock && now <= api.MaxTime }

// Enter begins an uninterruptible section of a process.
func (f *Freezer) Enter(process int, until, now uint64) api.Errno {
	if !f.has(process) || !f.validTime(now) || until < now || until > api.MaxTime {
		return api.ErrInvalid
	}
	if f.state != running {
		return api.ErrState
	}
	f.clock = now
	f.ends[process] = max(f.ends[process], until)
	return api.OK
}

// Freeze begins to freeze the processes.
func (f *Freezer) Freeze(now, deadline uint64) api.Errno {
	if !f.validTime(now) || deadline < now || deadline > api.MaxTime {
		return api.ErrInvalid
	}
	if f.state != running {
		return api.ErrState
	}
	f.state = freezing
	f.deadline = deadline
	_, e := f.Advance(now)
	return e
}

// Advance freezes the processes if all sections have ended, or gives up at the deadline.
func (f *Freezer) Advance(now uint64) (bool, api.Errno) {
	if !f.validTime(now) {
		return false, api.ErrInvalid
	}
	f.clock = now
	if f.state != freezing {
		return f.state == frozen, api.OK
	}
	for _, end := range f.ends {
		if end <= min(now, f.deadline) {
			continue
		}
		if now >= f.deadline {
			f.state = running
			return false, api.ErrTimeout
		}
		return false, api.OK
	}
	f.state = frozen
	return true, api.OK
}

// Thaw lets the processes run again.
func (f *Freezer) Thaw(now uint64) api.Errno {
	if !f.validTime(now) {
		return api.ErrInvalid
	}
	if f.state == running {
		return api.ErrState
	}
	f.clock = now
	f.state = running
	return api.OK
}

// Frozen reports whether a process is frozen.
func (f *Freezer) Frozen(process int) bool {
	if !f.has(process) {
		return false
	}
	return f.state == frozen || f.state == freezing && f.ends[process] <= f.clock
}
