package interp

import (
	"platformfw/api"
	"platformfw/lower"
)

// What a thread waits for between two instructions.
const (
	pendingNothing = iota
	pendingSync    // an Acquire or a Wait
	pendingEntry   // the mutex of a serialized method
	pendingSleep
	pendingAccess // a field of the embedded controller
)

// method is what the machine needs to know of a method; fault is the error of lowering it.
type method struct {
	object     int
	path       string
	args       int
	serialized bool
	level      int
	code       []api.Instr
	fault      api.Errno
}

// method returns the description of a method object. Objects never change, so it is made only once.
func (m *Machine) method(id int) *method {
	if known, ok := m.methods[id]; ok {
		return known
	}
	o, _ := m.space.Object(id)
	p := m.space.Program(o.Table)
	at := o.Node
	d := &method{object: id, path: o.Path, args: int(p[at+2].Int), serialized: p[at+3].Int == 1, level: int(p[at+4].Int)}
	d.code, d.fault = lower.Lower(p, at)
	m.methods[id] = d
	return d
}

// frame is the execution of a method.
type frame struct {
	number  int
	code    *method
	entered bool
	next    int
	stack   []api.Value
	locals  [api.MaxLocals]api.Value
	args    [api.MaxArgs]api.Value
}

// thread is a method thread with its frames, the last of which is the current one.
type thread struct {
	number  int
	status  int
	frames  []*frame
	result  api.Value
	fault   api.Errno
	pending int
	wakeAt  uint64
	access  *access
}

func (t *thread) ended() bool {
	return t.status == api.ThreadDone || t.status == api.ThreadFailed
}

func (t *thread) current() *frame { return t.frames[len(t.frames)-1] }

func (t *thread) push(v api.Value) {
	f := t.current()
	f.stack = append(f.stack, v)
}

func (t *thread) pop() api.Value {
	f := t.current()
	last := len(f.stack) - 1
	v := f.stack[last]
	f.stack = f.stack[:last]
	return v
}

// popAll removes n values, and returns them in the order in which they were pushed.
func (t *thread) popAll(n int) []api.Value {
	f := t.current()
	at := len(f.stack) - n
	l := append([]api.Value(nil), f.stack[at:]...)
	f.stack = f.stack[:at]
	return l
}

// block lets a thread wait.
func (t *thread) block(pending int) {
	t.pending = pending
	t.status = api.ThreadBlocked
}

func integer(v uint64) api.Value { return api.Value{Kind: api.ValInteger, Int: v} }

func logical(b bool) api.Value {
	if b {
		return integer(1<<64 - 1)
	}
	return integer(0)
}

// enterFrame adds a frame to a thread.
func (m *Machine) enterFrame(t *thread, code *method, args []api.Value) {
	m.framed++
	f := &frame{number: m.framed, code: code}
	copy(f.args[:], args)
	m.frames[f.number] = f
	t.frames = append(t.frames, f)
}

// leaveFrame removes the current frame of a thread.
func (m *Machine) leaveFrame(t *thread) {
	last := len(t.frames) - 1
	delete(m.frames, t.frames[last].number)
	t.frames = t.frames[:last]
}

// end ends a thread, and releases its mutexes.
func (m *Machine) end(t *thread, status int) {
	for len(t.frames) > 0 {
		m.leaveFrame(t)
	}
	t.status = status
	t.pending = pendingNothing
	t.access = nil
	m.locks.Abort(t.number)
}

// Step performs one step of a thread and returns its status.
func (m *Machine) Step(number int, now uint64) int {
	t, ok := m.threads[number]
	if !ok {
		return 0
	}
	m.locks.Expire(now)
	if t.ended() {
		return t.status
	}
	if e := m.advance(t, now); e != api.OK {
		t.fault = e
		m.end(t, api.ThreadFailed)
	}
	return t.status
}

// advance continues what a thread waits for, or else executes its next instruction.
func (m *Machine) advance(t *thread, now uint64) api.Errno {
	switch {
	case m.locks.Status(t.number) == api.SyncWaiting, t.pending == pendingSleep && t.wakeAt > now:
		t.status = api.ThreadBlocked
		return api.OK
	case t.pending == pendingAccess:
		return m.continueAccess(t, now)
	case t.pending != pendingNothing:
		m.finishWait(t)
		return api.OK
	case !t.current().entered:
		return m.enter(t, now)
	}
	return m.execute(t, now)
}

// finishWait notices that a wait or sleep is over.
func (m *Machine) finishWait(t *thread) {
	switch t.pending {
	case pendingSync:
		t.push(logical(m.locks.Status(t.number) == api.SyncTimeout))
	case pendingEntry:
		t.current().entered = true
	}
	t.pending = pendingNothing
	t.status = api.ThreadRunning
}

// enter begins the execution of the current frame.
func (m *Machine) enter(t *thread, now uint64) api.Errno {
	f := t.current()
	if f.code.serialized {
		m.locks.AddMutex(f.code.object, f.code.level)
		status, e := m.locks.Acquire(t.number, f.code.object, now, api.Forever)
		if e != api.OK {
			return e
		}
		if status == api.SyncWaiting {
			t.block(pendingEntry)
			return api.OK
		}
	}
	f.entered = true
	t.status = api.ThreadRunning
	return api.OK
}

// call lets a thread execute a method with arguments from its stack.
func (m *Machine) call(t *thread, name string, count int) api.Errno {
	id, o, e := m.resolve(t, name)
	if e != api.OK {
		return e
	}
	if o.Op != api.OpMethod {
		return api.ErrType
	}
	code := m.method(id)
	if code.args != count {
		return api.ErrInvalid
	}
	if len(t.frames) >= api.MaxFrames {
		return api.ErrOverflow
	}
	if code.fault != api.OK {
		return code.fault
	}
	args := t.popAll(count)
	for i, a := range args {
		if args[i], e = m.copyOf(a); e != api.OK {
			return e
		}
	}
	m.enterFrame(t, code, args)
	return api.OK
}

// leave ends the execution of the current frame with a result.
func (m *Machine) leave(t *thread, result api.Value) api.Errno {
	code := t.current().code
	if code.serialized {
		if e := m.locks.Release(t.number, code.object); e != api.OK {
			return e
		}
	}
	m.leaveFrame(t)
	if len(t.frames) > 0 {
		t.push(result)
		return api.OK
	}
	t.result = result
	m.end(t, api.ThreadDone)
	return api.OK
}
