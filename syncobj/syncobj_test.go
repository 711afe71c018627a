package syncobj

import (
	"slices"
	"testing"

	"platformfw/api"
)

const top = 1<<64 - 1

func check(t *testing.T, what string, got, want any) {
	t.Helper()
	if got != want {
		t.Errorf("%s: got %v, want %v", what, got, want)
	}
}

type result struct {
	status int
	e      api.Errno
}

func acquire(l *Locks, thread, id int, now, timeout uint64) result {
	s, e := l.Acquire(thread, id, now, timeout)
	return result{s, e}
}

func wait(l *Locks, thread, id int, now, timeout uint64) result {
	s, e := l.Wait(thread, id, now, timeout)
	return result{s, e}
}

// P15.1: adding and removing.
func TestAddRemove(t *testing.T) {
	l := New()
	check(t, "level", l.AddMutex(1, 16), api.ErrInvalid)
	check(t, "level", l.AddMutex(1, -1), api.ErrInvalid)
	check(t, "add", l.AddMutex(-5, 15), api.OK)
	check(t, "event", l.AddEvent(7), api.OK)
	check(t, "twice", l.AddMutex(7, 0), api.ErrDuplicate)
	check(t, "invalid first", l.AddMutex(7, 99), api.ErrInvalid)
	check(t, "twice", l.AddEvent(-5), api.ErrDuplicate)
	check(t, "none", l.Remove(1), api.ErrNotFound)
	acquire(l, 1, -5, 0, 0)
	check(t, "owned", l.Remove(-5), api.ErrBusy)
	l.Release(1, -5)
	check(t, "free", l.Remove(-5), api.OK)
	wait(l, 2, 7, 0, 9)
	check(t, "waited for", l.Remove(7), api.ErrBusy)
	l.Signal(7)
	l.Signal(7)
	check(t, "signalled", l.Remove(7), api.OK)
}

// P15.2: acquiring and releasing.
func TestMutex(t *testing.T) {
	l := New()
	l.AddMutex(5, 3)
	l.AddMutex(6, 4)
	l.AddEvent(9)
	check(t, "idle", l.Status(1), api.SyncIdle)
	check(t, "none", acquire(l, 1, 9, 0, 0), result{0, api.ErrNotFound})
	check(t, "acquire", acquire(l, 1, 6, 0, 0), result{api.SyncDone, 0})
	check(t, "lower level", acquire(l, 1, 5, 0, 0), result{0, api.ErrDenied})
	check(t, "again", acquire(l, 1, 6, 0, 0), result{api.SyncDone, 0})
	check(t, "busy", acquire(l, 2, 6, 0, 0), result{api.SyncTimeout, 0})
	check(t, "timed out", l.Status(2), api.SyncTimeout)
	check(t, "wait", acquire(l, 2, 6, 0, 10), result{api.SyncWaiting, 0})
	check(t, "wait", acquire(l, 3, 6, 0, top), result{api.SyncWaiting, 0})
	check(t, "waits already", acquire(l, 2, 5, 0, 10), result{0, api.ErrState})
	check(t, "waits already", wait(l, 2, 9, 0, 10), result{0, api.ErrState})
	check(t, "status", l.Status(2), api.SyncWaiting)
	check(t, "waiters", slices.Equal(l.Waiters(6), []int{2, 3}), true)
	check(t, "not the owner", l.Release(2, 6), api.ErrDenied)
	check(t, "no mutex", l.Release(1, 9), api.ErrNotFound)
	check(t, "release", l.Release(1, 6), api.OK)
	owner, ok := l.Owner(6)
	check(t, "still owner", owner == 1 && ok, true)
	l.Release(1, 6)
	owner, _ = l.Owner(6)
	check(t, "handed over", owner, 2)
	check(t, "done", l.Status(2), api.SyncDone)
	check(t, "once", l.Release(2, 6), api.OK)
	l.Release(3, 6)
	_, ok = l.Owner(6)
	check(t, "free", ok, false)
	acquire(l, 4, 5, 0, 0)
	acquire(l, 4, 6, 0, 0)
	check(t, "order of release", l.Release(4, 5), api.ErrDenied)
	check(t, "held", slices.Equal(l.Held(4), []int{5, 6}), true)
	for range api.MaxCount - 1 {
		acquire(l, 4, 6, 0, 0)
	}
	check(t, "count", acquire(l, 4, 6, 0, 0), result{0, api.ErrOverflow})
	check(t, "an owner below may acquire again", acquire(l, 4, 5, 0, 0), result{api.SyncDone, 0})
}

// P15.3: events.
func TestEvents(t *testing.T) {
	l := New()
	l.AddEvent(1)
	l.AddMutex(2, 0)
	check(t, "none", wait(l, 1, 2, 0, 0), result{0, api.ErrNotFound})
	check(t, "none", l.Signal(2), api.ErrNotFound)
	check(t, "none", l.Reset(2), api.ErrNotFound)
	check(t, "poll", wait(l, 1, 1, 0, 0), result{api.SyncTimeout, 0})
	for range api.MaxCount {
		check(t, "signal", l.Signal(1), api.OK)
	}
	check(t, "too many", l.Signal(1), api.ErrOverflow)
	check(t, "take", wait(l, 1, 1, 0, 0), result{api.SyncDone, 0})
	l.Reset(1)
	check(t, "wait", wait(l, 1, 1, 0, 5), result{api.SyncWaiting, 0})
	check(t, "wait", wait(l, 2, 1, 0, 5), result{api.SyncWaiting, 0})
	l.Signal(1)
	check(t, "first", l.Status(1), api.SyncDone)
	check(t, "second", l.Status(2), api.SyncWaiting)
	l.Reset(1)
	check(t, "reset keeps waiters", l.Status(2), api.SyncWaiting)
	l.Signal(1)
	check(t, "not counted", wait(l, 3, 1, 0, 0), result{api.SyncTimeout, 0})
}

// P15.4: deadlines.
func TestExpire(t *testing.T) {
	l := New()
	l.AddMutex(1, 0)
	l.AddEvent(2)
	acquire(l, 9, 1, 0, 0)
	acquire(l, 5, 1, 10, 5)
	wait(l, 4, 2, 10, 5)
	wait(l, 3, 2, 10, api.Forever)
	wait(l, 2, 2, 10, api.Forever-1)
	wait(l, 1, 2, top-1, 5)
	check(t, "early", len(l.Expire(14)), 0)
	check(t, "two", slices.Equal(l.Expire(15), []int{4, 5}), true)
	check(t, "status", l.Status(5), api.SyncTimeout)
	check(t, "queue", slices.Equal(l.Waiters(2), []int{3, 2, 1}), true)
	check(t, "long", slices.Equal(l.Expire(10+api.Forever-1), []int{2}), true)
	check(t, "not yet", len(l.Expire(top-1)), 0)
	check(t, "saturated", slices.Equal(l.Expire(top), []int{1}), true)
	check(t, "may wait again", acquire(l, 5, 1, 0, 1), result{api.SyncWaiting, 0})
	check(t, "unknown", len(l.Waiters(77)), 0)
}

// P15.4: Abort.
func TestAbort(t *testing.T) {
	l := New()
	l.AddMutex(1, 0)
	l.AddMutex(2, 3)
	l.AddMutex(3, 3)
	l.AddEvent(4)
	for _, id := range []int{1, 2, 3, 3} {
		acquire(l, 1, id, 0, 0)
	}
	acquire(l, 2, 1, 0, 9)
	acquire(l, 3, 3, 0, 9)
	wait(l, 1, 4, 0, 9)
	l.Abort(1)
	owner1, _ := l.Owner(1)
	_, ok2 := l.Owner(2)
	owner3, _ := l.Owner(3)
	check(t, "owners", owner1 == 2 && !ok2 && owner3 == 3, true)
	check(t, "idle", l.Status(1), api.SyncIdle)
	check(t, "no longer in the queue", len(l.Waiters(4)), 0)
	check(t, "holds nothing", len(l.Held(1)), 0)
	check(t, "may start again", wait(l, 1, 4, 0, 0), result{api.SyncTimeout, 0})
}
