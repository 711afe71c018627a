package boot

import (
	"slices"
	"strings"
	"testing"

	"platformfw/api"
	"platformfw/flash"
	"platformfw/measure"
	"platformfw/varstore"
)

// setting is a boot manager with what it works on.
type setting struct {
	t     *testing.T
	flash *flash.Flash
	store *varstore.Store
	log   *measure.Log
	m     *Manager
}

func setUp(t *testing.T) *setting {
	t.Helper()
	s := &setting{t: t, log: measure.New()}
	s.flash, _ = flash.New(api.FlashShape{Blocks: 3, Pages: 32, Endurance: 1000})
	varstore.Format(s.flash)
	s.store, _ = varstore.Open(s.flash)
	s.m = New(s.store, s.log)
	return s
}

func (s *setting) entry(id int, image string, active bool, attempts int) {
	s.t.Helper()
	s.expect("entry", s.m.SetEntry(api.BootEntry{ID: id, Digest: measure.Sum(image), Active: active, Attempts: attempts}), api.OK)
}

func (s *setting) expect(what string, got, want any) {
	s.t.Helper()
	if got != want {
		s.t.Errorf("%s: got %v, want %v", what, got, want)
	}
}

func (s *setting) try(images []string, id int, result, e api.Errno) {
	s.t.Helper()
	step, got := s.m.Try(images)
	if step != (api.BootStep{Entry: id, Result: result}) || got != e {
		s.t.Errorf("got %v %d, want %d %d %d", step, got, id, result, e)
	}
}

// P43.2: entries, and values that count as absent.
func TestEntries(t *testing.T) {
	s := setUp(t)
	d := api.Digest{9, 31: 8}
	for i, e := range []api.BootEntry{{ID: -1, Attempts: 1}, {ID: 16, Attempts: 1}, {ID: 0}, {ID: 0, Attempts: 256}, {ID: 0, Attempts: -1}} {
		if s.m.SetEntry(e) != api.ErrInvalid {
			t.Error(i)
		}
	}
	s.expect("set", s.m.SetEntry(api.BootEntry{ID: 15, Digest: d, Active: true, Attempts: 255}), api.OK)
	v, _ := s.store.Get("Entry\x0f")
	s.expect("value", v, string(d[:])+"\x01\xff\x00")
	e, n, err := s.m.Entry(15)
	s.expect("entry", e == api.BootEntry{ID: 15, Digest: d, Active: true, Attempts: 255} && n == 0 && err == api.OK, true)
	for _, id := range []int{-1, 0, 16, 271} {
		e, n, err := s.m.Entry(id)
		s.expect("none", e == api.BootEntry{} && n == 0 && err == api.ErrNotFound, true)
	}
	for _, bad := range []string{"", v + "x", v[:34], v[:32] + "\x02" + v[33:]} {
		s.store.Set("Entry\x0f", bad)
		_, _, err := s.m.Entry(15)
		s.expect("absent", err, api.ErrNotFound)
	}
	s.store.Set("Entry\x0f", v[:32]+"\x00\x07\x05")
	e, n, _ = s.m.Entry(15)
	s.expect("counted", !e.Active && e.Attempts == 7 && n == 5, true)
	s.flash.PowerOff()
	s.expect("store error", s.m.SetEntry(api.BootEntry{ID: 1, Attempts: 1}), api.ErrDown)
}

// P43.2: the order, the next entry and the denied digests.
func TestOrderNextDenied(t *testing.T) {
	s := setUp(t)
	if s.m.Order() != nil || s.m.Denied() != nil {
		t.Error("initial")
	}
	s.expect("order", s.m.SetOrder([]int{3, 0, 15}), api.OK)
	if !slices.Equal(s.m.Order(), []int{3, 0, 15}) {
		t.Error(s.m.Order())
	}
	for _, bad := range [][]int{{1, 1}, {-1}, {16}, make([]int, 17)} {
		s.expect("order", s.m.SetOrder(bad), api.ErrInvalid)
	}
	for _, bad := range []string{"\x01\x01", "\x10", "\x00\x01\x02\x00"} {
		s.store.Set("Order", bad)
		s.expect("absent", len(s.m.Order()), 0)
	}
	s.expect("empty", s.m.SetOrder(nil), api.OK)
	s.expect("next", s.m.SetNext(16), api.ErrInvalid)
	s.expect("next", s.m.SetNext(-1), api.ErrInvalid)
	s.expect("next", s.m.SetNext(15), api.OK)
	v, _ := s.store.Get("Next")
	s.expect("next", v, "\x0f")
	for i := range byte(4) {
		s.expect("deny", s.m.Deny(api.Digest{i}), api.OK)
	}
	s.expect("denied already", s.m.Deny(api.Digest{2}), api.OK)
	s.expect("full", s.m.Deny(api.Digest{7}), api.ErrFull)
	if !slices.Equal(s.m.Denied(), []api.Digest{{0}, {1}, {2}, {3}}) {
		t.Error(s.m.Denied())
	}
	s.store.Set("Denied", strings.Repeat("x", 33))
	s.expect("absent", len(s.m.Denied()), 0)
	s.flash.PowerOff()
	s.expect("store error", s.m.SetOrder([]int{1}), api.ErrDown)
	s.expect("store error", s.m.SetNext(1), api.ErrDown)
	s.expect("store error", s.m.Deny(api.Digest{9}), api.ErrDown)
}

// P43.1, P43.3 and P43.4: candidates and their results.
func TestBoot(t *testing.T) {
	s := setUp(t)
	s.try(nil, 0, 0, api.ErrNotFound)
	images := []string{"", "one", "two", "three", "four", "five", "six"}
	s.entry(0, "", true, 1)
	s.entry(2, "two", false, 1)
	s.entry(3, "other", true, 1)
	s.entry(4, "four", true, 1)
	s.entry(5, "five", true, 2)
	s.entry(6, "six", true, 2)
	s.entry(9, "nine", true, 2)
	s.m.Deny(measure.Sum("four"))
	s.m.SetOrder([]int{0, 1, 9, 2, 3, 4, 5, 6})
	s.expect("begin", s.m.Begin(), api.OK)
	for _, c := range [][2]int{{0, int(api.ErrNotFound)}, {1, int(api.ErrNotFound)}, {9, int(api.ErrNotFound)}, {2, int(api.ErrState)}, {3, int(api.ErrVersion)}, {4, int(api.ErrDenied)}, {5, 0}} {
		s.try(images, c[0], api.Errno(c[1]), api.OK)
	}
	s.try(images, 0, 0, api.ErrNotFound)
	s.expect("log", len(s.m.Log()), 7)
	if ev := s.log.Events(); !slices.Equal(ev, []api.LogEvent{{Register: 4, Digest: measure.Sum("five"), Text: "boot"}}) {
		t.Error(ev)
	}
	_, n, _ := s.m.Entry(5)
	s.expect("attempts", n, 1)
	s.m.SetOrder([]int{5, 6})
	s.m.Begin()
	s.expect("empty log", len(s.m.Log()), 0)
	s.try(images, 5, api.OK, api.OK)
	s.m.Begin()
	s.try(images, 5, api.ErrTimeout, api.OK)
	s.try(images, 6, api.OK, api.OK)
	s.m.SetNext(6)
	s.m.Begin()
	_, e := s.store.Get("Next")
	s.expect("Next is deleted", e, api.ErrNotFound)
	s.try(images, 6, api.OK, api.OK)
	s.store.Set("Next", "\x20")
	s.m.Begin()
	_, e = s.store.Get("Next")
	s.expect("absent value is deleted", e, api.ErrNotFound)
	s.try(images, 5, api.ErrTimeout, api.OK)
	s.try(images, 6, api.ErrTimeout, api.OK)
	s.try(images, 0, 0, api.ErrNotFound)
	s.m.SetNext(1)
	s.flash.PowerOff()
	s.expect("store error", s.m.Begin(), api.ErrDown)
	s.expect("nothing has changed", len(s.m.Log()), 2)
}

// P43.4 and P43.5: power losses and successes.
func TestSucceeded(t *testing.T) {
	s := setUp(t)
	s.expect("nothing started", s.m.Succeeded(), api.ErrState)
	s.entry(1, "x", true, 2)
	s.m.SetOrder([]int{1})
	s.m.Begin()
	s.flash.PowerOff()
	s.try([]string{"", "x"}, 0, 0, api.ErrDown)
	s.expect("nothing started", s.m.Succeeded(), api.ErrState)
	s.flash.PowerOn()
	s.store, _ = varstore.Open(s.flash)
	s.m.store = s.store
	s.try([]string{"", "x"}, 1, api.OK, api.OK)
	s.expect("succeeded", s.m.Succeeded(), api.OK)
	_, n, _ := s.m.Entry(1)
	s.expect("attempts", n, 0)
	s.m.Begin()
	s.expect("forgotten", s.m.Succeeded(), api.ErrState)
	s.try([]string{"", "x"}, 1, api.OK, api.OK)
	s.store.Delete("Entry\x01")
	s.expect("the entry is gone", s.m.Succeeded(), api.ErrState)
	s.entry(1, "x", true, 2)
	s.m.Begin()
	s.try([]string{"", "x"}, 1, api.OK, api.OK)
	s.flash.PowerOff()
	s.expect("store error", s.m.Succeeded(), api.ErrDown)
}
