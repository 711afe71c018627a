package interp

import (
	"platformfw/api"
	"platformfw/value"
)

// execute executes the next instruction of a thread.
func (m *Machine) execute(t *thread, now uint64) api.Errno {
	f := t.current()
	in := f.code.code[f.next]
	f.next++
	t.status = api.ThreadRunning
	switch in.Op {
	case api.InInt:
		t.push(integer(in.Int))
	case api.InString:
		t.push(api.Value{Kind: api.ValString, Str: in.Str})
	case api.InBuffer:
		t.push(api.Value{Kind: api.ValBuffer, Str: in.Str})
	case api.InPushName:
		t.push(m.named(t, in.Str))
	case api.InPackage:
		return m.makePackage(t, in.Int)
	case api.InLoadLocal:
		t.push(f.locals[in.Int])
	case api.InLoadArg:
		t.push(f.args[in.Int])
	case api.InStoreLocal:
		return m.assign(&f.locals[in.Int], t.pop())
	case api.InStoreArg:
		return m.assign(&f.args[in.Int], t.pop())
	case api.InJump:
		f.next = int(in.Int)
	case api.InJumpZero:
		n, e := value.Integer(t.pop())
		if e == api.OK && n == 0 {
			f.next = int(in.Int)
		}
		return e
	case api.InPop:
		t.pop()
	case api.InCall:
		return m.call(t, in.Str, int(in.Int))
	case api.InReturn:
		var result api.Value
		if in.Int == 1 {
			result = t.pop()
		}
		return m.leave(t, result)
	case api.InUnary, api.InBinary, api.InMid, api.InType:
		return m.operate(t, in)
	case api.InRefName, api.InRefLocal, api.InRefArg, api.InIndex, api.InDeref, api.InStoreRef:
		return m.refer(t, in, now)
	case api.InAcquire, api.InRelease, api.InWait, api.InSignal, api.InReset:
		return m.synchronize(t, in, now)
	default:
		return m.useObject(t, in, now)
	}
	return api.OK
}

// pushed pushes a result unless there is an error.
func (t *thread) pushed(v api.Value, e api.Errno) api.Errno {
	if e == api.OK {
		t.push(v)
	}
	return e
}

// operate executes the operators.
func (m *Machine) operate(t *thread, in api.Instr) api.Errno {
	switch in.Op {
	case api.InUnary:
		a := t.pop()
		if in.Int == api.OpSizeOf && a.Kind == api.ValPackage {
			t.push(integer(uint64(len(m.packs[a.Obj-1]))))
			return api.OK
		}
		return t.pushed(value.Unary(int(in.Int), a))
	case api.InBinary:
		l := t.popAll(2)
		return t.pushed(value.Binary(int(in.Int), l[0], l[1]))
	case api.InMid:
		l := t.popAll(3)
		i, e := value.Integer(l[1])
		if e != api.OK {
			return e
		}
		n, e := value.Integer(l[2])
		if e != api.OK {
			return e
		}
		return t.pushed(value.Mid(l[0], i, n))
	}
	return t.pushed(m.typeOf(t.pop()))
}

// refer executes the instructions for references.
func (m *Machine) refer(t *thread, in api.Instr, now uint64) api.Errno {
	f := t.current()
	switch in.Op {
	case api.InRefName:
		id, _, e := m.resolve(t, in.Str)
		if e != api.OK {
			return e
		}
		return t.pushed(m.newReference(reference{kind: refObject, owner: id}))
	case api.InRefLocal:
		return t.pushed(m.newReference(reference{kind: refLocal, owner: f.number, index: in.Int}))
	case api.InRefArg:
		return t.pushed(m.newReference(reference{kind: refArg, owner: f.number, index: in.Int}))
	case api.InIndex:
		l := t.popAll(2)
		return t.pushed(m.index(l[0], l[1]))
	case api.InDeref:
		return m.dereference(t, t.pop(), now)
	}
	l := t.popAll(2)
	return m.storeReference(t, l[1], l[0], now)
}

// synchronize executes the instructions for mutexes and events.
func (m *Machine) synchronize(t *thread, in api.Instr, now uint64) api.Errno {
	id, o, e := m.resolve(t, in.Str)
	if e != api.OK {
		return e
	}
	want := api.OpEvent
	if in.Op == api.InAcquire || in.Op == api.InRelease {
		want = api.OpMutex
	}
	if o.Op != want {
		return api.ErrType
	}
	m.addLock(id, o)
	status := api.SyncIdle
	switch in.Op {
	case api.InAcquire:
		status, e = m.locks.Acquire(t.number, id, now, in.Int)
	case api.InWait:
		timeout, fault := value.Integer(t.pop())
		if fault != api.OK {
			return fault
		}
		status, e = m.locks.Wait(t.number, id, now, timeout)
	case api.InRelease:
		return m.locks.Release(t.number, id)
	case api.InSignal:
		return m.locks.Signal(id)
	case api.InReset:
		return m.locks.Reset(id)
	}
	if e != api.OK {
		return e
	}
	if status == api.SyncWaiting {
		t.block(pendingSync)
	} else {
		t.push(logical(status == api.SyncTimeout))
	}
	return api.OK
}

// addLock adds the mutex or event of an object when it is first used.
func (m *Machine) addLock(id int, o api.Object) {
	if o.Op == api.OpEvent {
		m.locks.AddEvent(id)
		return
	}
	m.locks.AddMutex(id, int(m.space.Program(o.Table)[o.Node+2].Int))
}

// useObject executes the instructions that load, store, test and notify objects, and Sleep.
func (m *Machine) useObject(t *thread, in api.Instr, now uint64) api.Errno {
	switch in.Op {
	case api.InSleep:
		n, e := value.Integer(t.pop())
		if e != api.OK {
			return e
		}
		t.wakeAt = now + min(n, 1<<64-1-now)
		t.block(pendingSleep)
		return api.OK
	case api.InExists:
		_, ok := m.space.Lookup(t.current().code.path, in.Str)
		t.push(logical(ok))
		return api.OK
	}
	id, o, e := m.resolve(t, in.Str)
	if e != api.OK {
		return e
	}
	switch in.Op {
	case api.InLoadName:
		return m.load(t, id, now)
	case api.InStoreName:
		return m.store(t, id, t.pop(), now)
	case api.InTypeName:
		t.push(integer(uint64(m.objectType(id, o))))
	case api.InNotify:
		n, e := value.Integer(t.pop())
		if e != api.OK {
			return e
		}
		if len(m.notes) >= api.MaxNotifications {
			return api.ErrFull
		}
		m.notes = append(m.notes, api.Notification{Object: id, Value: n})
	}
	return api.OK
}
