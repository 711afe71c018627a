package lower

import (
	"slices"
	"strings"
	"testing"

	"platformfw/api"
	"platformfw/syntax"
)

func lowered(t *testing.T, body string) ([]api.Instr, api.Errno) {
	t.Helper()
	p, at, e := syntax.Parse("Method (M, 3, 0, 0) {" + body + "}")
	if e != api.OK {
		t.Fatal(body, at, e)
	}
	return Lower(p, 0)
}

func in(op int, n uint64, s string) api.Instr { return api.Instr{Op: op, Int: n, Str: s} }

func op(o int) api.Instr { return api.Instr{Op: o} }

func num(n uint64) api.Instr { return in(api.InInt, n, "") }

// P14.1: the code of every construct.
func TestLower(t *testing.T) {
	for _, c := range []struct {
		body string
		code []api.Instr
	}{
		{"", nil},
		{"Return (Add (Local0, 1))", []api.Instr{op(api.InLoadLocal), num(1), in(api.InBinary, api.OpAdd, ""), in(api.InReturn, 1, "")}},
		{"Return", []api.Instr{op(api.InReturn)}},
		{"Store (\"a\", Local7) Store (A.B, Arg2) Store (1, ^X)", []api.Instr{in(api.InString, 0, "a"), in(api.InStoreLocal, 7, ""), in(api.InLoadName, 0, "A.B"), in(api.InStoreArg, 2, ""), num(1), in(api.InStoreName, 0, "^X")}},
		{"Store (1, Index (P, 2)) Store (3, DerefOf (Arg1))", []api.Instr{num(1), in(api.InLoadName, 0, "P"), num(2), op(api.InIndex), op(api.InStoreRef), num(3), in(api.InLoadArg, 1, ""), op(api.InStoreRef)}},
		{"FOO (1, Arg0) Acquire (MU, 9) Wait (EV, 7)", []api.Instr{num(1), op(api.InLoadArg), in(api.InCall, 2, "FOO"), op(api.InPop), in(api.InAcquire, 9, "MU"), op(api.InPop), num(7), in(api.InWait, 0, "EV"), op(api.InPop)}},
		{"Store (Buffer (3) {1}, Local0)", []api.Instr{in(api.InBuffer, 0, "\x01\x00\x00"), op(api.InStoreLocal)}},
		{"Store (Package (3) {N, Package (1) {}, 2}, Local0)", []api.Instr{in(api.InPushName, 0, "N"), in(api.InPackage, 256, ""), num(2), in(api.InPackage, 3*256+3, ""), op(api.InStoreLocal)}},
		{"Return (Mid (Not (1), SizeOf (X), DerefOf (2)))", []api.Instr{num(1), in(api.InUnary, api.OpNot, ""), in(api.InLoadName, 0, "X"), in(api.InUnary, api.OpSizeOf, ""), num(2), op(api.InDeref), op(api.InMid), in(api.InReturn, 1, "")}},
		{"Store (RefOf (A), Local0) Store (RefOf (Local1), Local0) Store (RefOf (Arg2), Local0) Store (RefOf (Index (A, 0)), Local0) Store (RefOf (DerefOf (Arg0)), Local0)", []api.Instr{in(api.InRefName, 0, "A"), op(api.InStoreLocal), in(api.InRefLocal, 1, ""), op(api.InStoreLocal), in(api.InRefArg, 2, ""), op(api.InStoreLocal), in(api.InLoadName, 0, "A"), num(0), op(api.InIndex), op(api.InStoreLocal), op(api.InLoadArg), op(api.InStoreLocal)}},
		{"Sleep (ObjectType (A)) Sleep (ObjectType (Local2)) Sleep (ObjectType (Index (A, 1))) Sleep (ObjectType (DerefOf (Arg0))) Sleep (CondRefOf (A))", []api.Instr{in(api.InTypeName, 0, "A"), op(api.InSleep), in(api.InLoadLocal, 2, ""), op(api.InType), op(api.InSleep), in(api.InLoadName, 0, "A"), num(1), op(api.InIndex), op(api.InDeref), op(api.InType), op(api.InSleep), op(api.InLoadArg), op(api.InDeref), op(api.InType), op(api.InSleep), in(api.InExists, 0, "A"), op(api.InSleep)}},
		{"Release (A) Signal (B) Reset (C) Notify (D, 5)", []api.Instr{in(api.InRelease, 0, "A"), in(api.InSignal, 0, "B"), in(api.InReset, 0, "C"), num(5), in(api.InNotify, 0, "D")}},
		{"If (1) {Reset (A)} If (0) {} Else {Reset (B)}", []api.Instr{num(1), in(api.InJumpZero, 3, ""), in(api.InReset, 0, "A"), num(0), in(api.InJumpZero, 6, ""), in(api.InJump, 7, ""), in(api.InReset, 0, "B")}},
		{"While (1) {While (2) {Break} If (3) {Continue} Break}", []api.Instr{num(1), in(api.InJumpZero, 11, ""), num(2), in(api.InJumpZero, 6, ""), in(api.InJump, 6, ""), in(api.InJump, 2, ""), num(3), in(api.InJumpZero, 9, ""), in(api.InJump, 0, ""), in(api.InJump, 11, ""), in(api.InJump, 0, "")}},
	} {
		code, e := lowered(t, c.body)
		if want := append(c.code, op(api.InReturn)); e != api.OK || !slices.Equal(code, want) {
			t.Errorf("%s: %v\nwant %v", c.body, code, want)
		}
		if _, ok := Depth(code); !ok {
			t.Error("depth", c.body)
		}
	}
}

// P14.1: errors.
func TestLowerErrors(t *testing.T) {
	p, _, _ := syntax.Parse("Name (A, 1) Method (M, 0, 0, 0) {Return (B)} Field (R, 1, 0) {}")
	for i, want := range map[int]api.Errno{0: api.ErrInvalid, -1: api.ErrInvalid, 99: api.ErrInvalid, 3: api.OK, 4: api.ErrInvalid} {
		if l, e := Lower(p, i); e != want || (l == nil) != (e != api.OK) {
			t.Error(i, l, e)
		}
	}
	if _, e := lowered(t, "Break"); e != api.ErrInvalid {
		t.Error(e)
	}
	if _, e := Lower([]api.Node{{Op: api.OpMethod}}, 0); e != api.ErrInvalid {
		t.Error(e)
	}
	ints := func(n int) string { return strings.TrimSuffix(strings.Repeat("0, ", n), ", ") }
	pack := "Store (Package (64) {" + ints(64) + "}, Local0)"
	if l, e := lowered(t, pack); e != api.OK || len(l) != 67 {
		t.Error(e)
	}
	if l, e := lowered(t, "Store (Add (1, Package (64) {"+ints(64)+"}), Local0)"); l != nil || e != api.ErrOverflow {
		t.Error(e)
	}
}

// P14.2: effects on the stack.
func TestEffect(t *testing.T) {
	for _, c := range []struct {
		in             api.Instr
		removes, pushs int
		ok             bool
	}{
		{op(api.InInt), 0, 1, true}, {op(api.InAcquire), 0, 1, true}, {op(api.InExists), 0, 1, true}, {op(api.InWait), 1, 1, true}, {op(api.InType), 1, 1, true}, {op(api.InIndex), 2, 1, true}, {op(api.InMid), 3, 1, true},
		{in(api.InCall, 7, ""), 7, 1, true}, {in(api.InCall, 8, ""), 0, 0, false}, {in(api.InPackage, 256*64+9, ""), 9, 1, true}, {op(api.InNotify), 1, 0, true}, {op(api.InStoreRef), 2, 0, true}, {op(api.InReset), 0, 0, true}, {op(api.InJump), 0, 0, true}, {op(api.InJumpZero), 1, 0, true},
		{op(api.InReturn), 0, 0, true}, {in(api.InReturn, 1, ""), 1, 0, true}, {in(api.InReturn, 2, ""), 0, 0, false}, {in(api.InReturn, 1<<63, ""), 0, 0, false}, {op(0), 0, 0, false}, {op(36), 0, 0, false}, {op(-1), 0, 0, false},
	} {
		if r, p, ok := Effect(c.in); r != c.removes || p != c.pushs || ok != c.ok {
			t.Error(c, r, p, ok)
		}
	}
	known := 0
	for o := range 50 {
		if _, _, ok := Effect(op(o)); ok {
			known++
		}
	}
	if known != 35 {
		t.Error(known)
	}
}

// P14.3: depth, and code that is not sound.
func TestDepth(t *testing.T) {
	jump := func(to uint64) api.Instr { return in(api.InJump, to, "") }
	zero := func(to uint64) api.Instr { return in(api.InJumpZero, to, "") }
	for i, c := range []struct {
		code  []api.Instr
		depth int
		ok    bool
	}{
		{nil, 0, false}, {[]api.Instr{op(api.InReturn)}, 0, true}, {[]api.Instr{num(1)}, 0, false}, {[]api.Instr{num(1), num(1), num(1), op(api.InPop), op(api.InReturn)}, 3, true}, {[]api.Instr{op(api.InPop), op(api.InReturn)}, 0, false},
		{[]api.Instr{jump(0)}, 0, true}, {[]api.Instr{jump(1)}, 0, false}, {[]api.Instr{jump(1 << 63)}, 0, false}, {[]api.Instr{num(1), zero(0)}, 0, false}, {[]api.Instr{num(1), zero(0), op(api.InReturn)}, 1, true}, {[]api.Instr{num(1), jump(0)}, 0, false},
		{[]api.Instr{jump(2), op(99), op(api.InReturn)}, 0, true}, {[]api.Instr{op(99)}, 0, false}, {[]api.Instr{num(1), zero(3), num(1), op(api.InReturn)}, 0, false}, {[]api.Instr{op(api.InReturn), op(api.InPop)}, 0, true}, {[]api.Instr{in(api.InReturn, 1, "")}, 0, false},
	} {
		if d, ok := Depth(c.code); d != c.depth || ok != c.ok {
			t.Error(i, d, ok)
		}
	}
}
