package driver

import (
	"reflect"
	"slices"
	"strconv"
	"strings"
	"testing"

	"platformfw/api"
)

const example = "driver d\nstate off\non start -> on: write 4 1\nstate on\n on irq if 8 & 1 = 1 -> off"

func base() api.Driver {
	return api.Driver{Name: "d", States: []string{"off", "on"}, Transitions: []api.Transition{{From: 0, Event: "start", Ops: []api.RegOp{{Write: true, Reg: 4, Value: 1}}, To: 1}, {From: 1, Event: "irq", Guard: api.Guard{Used: true, Reg: 8, Mask: 1, Value: 1}, To: 0}}}
}

// P26.1: errors of drivers.
func TestCheck(t *testing.T) {
	if Check(base()) != api.OK {
		t.Error("valid driver refused")
	}
	names := func(n int) []string {
		var l []string
		for i := range n {
			l = append(l, "s"+strconv.Itoa(i))
		}
		return l
	}
	for i, c := range []struct {
		change func(d *api.Driver)
		e      api.Errno
	}{
		{func(d *api.Driver) { d.Name = "" }, api.ErrInvalid}, {func(d *api.Driver) { d.Name = "1a" }, api.ErrInvalid}, {func(d *api.Driver) { d.Name = strings.Repeat("a", 33) }, api.ErrInvalid}, {func(d *api.Driver) { d.Name = strings.Repeat("_", 32) }, 0}, {func(d *api.Driver) { d.Name = "a-b" }, api.ErrInvalid},
		{func(d *api.Driver) { d.States = nil; d.Transitions = nil }, api.ErrInvalid}, {func(d *api.Driver) { d.States = names(32) }, 0}, {func(d *api.Driver) { d.States = names(33) }, api.ErrInvalid}, {func(d *api.Driver) { d.States[1] = "" }, api.ErrInvalid}, {func(d *api.Driver) { d.States[1] = "off" }, api.ErrDuplicate},
		{func(d *api.Driver) { d.States[1] = "off"; d.Transitions[0].To = 9 }, api.ErrInvalid}, {func(d *api.Driver) { d.Transitions = slices.Repeat(d.Transitions[:1], 128) }, 0}, {func(d *api.Driver) { d.Transitions = slices.Repeat(d.Transitions[:1], 129) }, api.ErrInvalid},
		{func(d *api.Driver) { d.Transitions[0].From = 2 }, api.ErrInvalid}, {func(d *api.Driver) { d.Transitions[0].From = -1 }, api.ErrInvalid}, {func(d *api.Driver) { d.Transitions[0].To = -1 }, api.ErrInvalid}, {func(d *api.Driver) { d.Transitions[0].From = 1; d.Transitions[1].From = 0 }, api.ErrInvalid},
		{func(d *api.Driver) { d.Transitions[0].Event = "" }, api.ErrInvalid}, {func(d *api.Driver) { d.Transitions[0].Guard.Mask = 1 }, api.ErrInvalid}, {func(d *api.Driver) { d.Transitions[0].Ops = make([]api.RegOp, 17) }, api.ErrInvalid}, {func(d *api.Driver) { d.Transitions[0].Ops = make([]api.RegOp, 16) }, 0}, {func(d *api.Driver) { d.Transitions[0].Ops[0].Write = false }, api.ErrInvalid},
	} {
		d := base()
		c.change(&d)
		_, e1 := Format(d)
		_, e2 := Reachable(d)
		n, e3 := New(d)
		if Check(d) != c.e || e1 != c.e || e2 != c.e || e3 != c.e || (n == nil) != (c.e != 0) {
			t.Error(i, Check(d), e1, e2, e3)
		}
	}
}

// P26.2: parsing.
func TestParse(t *testing.T) {
	if d, e := Parse(example); e != api.OK || !reflect.DeepEqual(d, base()) {
		t.Error(d, e)
	}
	d, e := Parse("\n # x\n\tdriver d # y\nstate off\non start->on:write 4 1\nstate on on2\n")
	if e != api.ErrSyntax {
		t.Error(d, e)
	}
	d, e = Parse("#a\n\tdriver  d#y\nstate off\n\non start->on:write 4 1#;\nstate on\n on irq if 8&1=1->off\n")
	if e != api.OK || !reflect.DeepEqual(d, base()) {
		t.Error(d, e)
	}
	d, e = Parse("driver driver\nstate state\non if if 18446744073709551615 & 0 = 0 -> state: read 0; write 1 2; read 3")
	if e != api.OK || d.Transitions[0].Guard.Reg != 1<<64-1 || len(d.Transitions[0].Ops) != 3 || d.Transitions[0].Event != "if" {
		t.Error(d, e)
	}
	for _, c := range []struct {
		text string
		e    api.Errno
	}{
		{"", api.ErrSyntax}, {"state a", api.ErrSyntax}, {"driver", api.ErrSyntax}, {"driver 1", api.ErrSyntax}, {"driver d e", api.ErrSyntax}, {"driver d\ndriver e", api.ErrSyntax}, {"driver d\non a -> b", api.ErrSyntax}, {"driver d\r\nstate a", api.ErrSyntax}, {"driver d\nstate a\nx", api.ErrSyntax}, {"driver d state a", api.ErrSyntax},
		{"driver d\nstate a\non b -> a:", api.ErrSyntax}, {"driver d\nstate a\non b -> a: read 1;", api.ErrSyntax}, {"driver d\nstate a\non b -> a read 1", api.ErrSyntax}, {"driver d\nstate a\non b -> a: write 1", api.ErrSyntax}, {"driver d\nstate a\non b -> a: read 1 2", api.ErrSyntax}, {"driver d\nstate a\non b - > a", api.ErrSyntax}, {"driver d\nstate a\non b > a", api.ErrSyntax},
		{"driver d\nstate a\non b if 01 & 1 = 1 -> a", api.ErrSyntax}, {"driver d\nstate a\non b if 18446744073709551616 & 1 = 1 -> a", api.ErrSyntax}, {"driver d\nstate a\non b if 4x & 1 = 1 -> a", api.ErrSyntax}, {"driver d\nstate a\non b if 4 & 1 -> a", api.ErrSyntax}, {"driver d\nstate a\non b if x & 1 = 1 -> a", api.ErrSyntax}, {"driver " + strings.Repeat("a", 33), api.ErrSyntax},
		{"driver d\nstate a\nstate a\non x -> zz", api.ErrDuplicate}, {"driver d\nstate a\nstate a\n?", api.ErrSyntax}, {"driver d\nstate a\non x -> zz", api.ErrNotFound}, {"driver d", api.ErrInvalid}, {"driver d\nstate a\non x -> a" + strings.Repeat("\non x -> a", 128), api.ErrInvalid}, {"driver d\nstate a\non x -> a: read 1" + strings.Repeat("; read 1", 16), api.ErrInvalid},
	} {
		if d, e := Parse(c.text); e != c.e || !reflect.DeepEqual(d, api.Driver{}) {
			t.Errorf("%q: %d", c.text, e)
		}
	}
}

// P26.3: the canonical text.
func TestFormat(t *testing.T) {
	d := base()
	d.Transitions[1].Ops = []api.RegOp{{Reg: 7}, {Write: true, Reg: 1, Value: 2}}
	want := "driver d\nstate off\n  on start -> on: write 4 1\nstate on\n  on irq if 8 & 1 = 1 -> off: read 7; write 1 2\n"
	s, e := Format(d)
	back, e2 := Parse(s)
	if s != want || e != api.OK || e2 != api.OK || !reflect.DeepEqual(back, d) {
		t.Error(s, e, e2)
	}
}

// P26.4: reachable states.
func TestReachable(t *testing.T) {
	d, _ := Parse("driver d\nstate a\non x -> d\nstate b\non x -> c\nstate c\nstate d\non y -> c\non z -> a")
	if l, e := Reachable(d); !slices.Equal(l, []int{0, 2, 3}) || e != api.OK {
		t.Error(l, e)
	}
}

// P26.5 to P26.7: instances.
func TestInstance(t *testing.T) {
	d, e := Parse("driver d\nstate a\non go if 1 & 6 = 2 -> b: write 1 1\non go if 1 & 1 = 1 -> c\non other -> c\non go -> d: read 5; read 6\nstate b\nstate c\non stop if 2 & 255 = 0 -> a\nstate d")
	if e != api.OK {
		t.Fatal(e)
	}
	ask := func(reg uint64) api.Action { return api.Action{Ops: []api.RegOp{{Reg: reg}}, Wait: true} }
	run := func(i *Instance, got api.Action, e api.Errno, want api.Action, state int) {
		t.Helper()
		if e != api.OK || got.Wait != want.Wait || !slices.Equal(got.Ops, want.Ops) || i.State() != state || i.Waiting() != want.Wait {
			t.Error(got, e, i.State())
		}
	}
	start := func() *Instance { i, _ := New(d); return i }
	i := start()
	a, e := i.Handle("none")
	run(i, a, e, api.Action{}, 0)
	a, e = i.Handle("go")
	run(i, a, e, ask(1), 0)
	if _, e := i.Handle("go"); e != api.ErrState {
		t.Error(e)
	}
	a, e = i.Reply(0xFB)
	run(i, a, e, api.Action{Ops: []api.RegOp{{Write: true, Reg: 1, Value: 1}}}, 1)
	if _, e := i.Reply(0); e != api.ErrState {
		t.Error(e)
	}
	i = start()
	i.Handle("go")
	a, e = i.Reply(5)
	run(i, a, e, ask(1), 0)
	a, e = i.Reply(5)
	run(i, a, e, api.Action{}, 2)
	a, e = i.Handle("stop")
	run(i, a, e, ask(2), 2)
	a, e = i.Reply(1)
	run(i, a, e, api.Action{}, 2)
	i = start()
	i.Handle("go")
	i.Reply(0)
	a, e = i.Reply(0)
	run(i, a, e, api.Action{Ops: []api.RegOp{{Reg: 5}, {Reg: 6}}}, 3)
	a.Ops[0].Reg = 99
	d.Transitions[3].Ops[0].Reg = 99
	j := start()
	if j.transitions[3].Ops[0].Reg != 99 || i.transitions[3].Ops[0].Reg != 5 {
		t.Error("memory shared")
	}
}
