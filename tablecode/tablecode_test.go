package tablecode

import (
	"reflect"
	"strings"
	"testing"

	"platformfw/api"
	"platformfw/bytecode"
	"platformfw/syntax"
)

const sample = `Scope (\_SB) {
  Device (EC0) {
    Name (_ADR, 16)
    Name (P, Package (3) {1, "a\x00", A.B, Buffer (2) {300}, Package (0) {}})
    PowerResource (PWR0, 1, 2) {}
    OperationRegion (R, 0, 0x123456789A, 0x10000)
    Field (^R, 1, 0) {Unit (F0, 8) Skip (3)}
    IndexField (F0, F0, 1, 0) {}
    Mutex (M, 0)
    Event (E)
  }
}
Method (MAIN, 2, 1, 0) {
  Store (Add (Local0, FOO (1, Arg6)), Index (\P.Q.R.S, 0))
  If (LEqual (1, 2)) {Return} Else {While (CondRefOf (^X)) {Break Continue}}
  If (1) {}
  Return (Mid (DerefOf (RefOf (X)), ObjectType (Local7), 3))
  Acquire (M, 16) Wait (E, 0xFFFFFFFFFFFFFFFF) BAR () Release (M) Signal (E) Reset (E) Sleep (Not (0)) Notify (EC0, ToHexString (Buffer (1) {1, 2}))
}`

func parse(t *testing.T, src string) []api.Node {
	t.Helper()
	p, at, e := syntax.Parse(src)
	if e != api.OK {
		t.Fatal(src, at, e)
	}
	return p
}

// P6.1: the code of small programs.
func TestCompile(t *testing.T) {
	for _, c := range []struct{ src, code string }{
		{"", ""}, {"Name (_ADR, 16)", "\x13_ADR\x0a\x10"}, {"Event (E)", "\x1bE\x00\x00\x00"},
		{"Scope (\\) {Mutex (M, 1)}", "\x10\x5c\x00\x07\x1aM\x00\x00\x00\x01"},
		{"Method (M, 0, 0, 0) {Return}", "\x14M\x00\x00\x00\x00\x00\x00\x03\x73\x00"},
		{"Method (M, 0, 0, 0) {Return (Local7)}", "\x14M\x00\x00\x00\x00\x00\x00\x04\x73\x01\x67"},
		{"Method (M, 0, 0, 0) {If (Arg6) {Break}}", "\x14M\x00\x00\x00\x00\x00\x00\x06\x71\x6e\x02\x74\x00"},
		{"Method (M, 0, 0, 0) {If (0) {} Else {}}", "\x14M\x00\x00\x00\x00\x00\x00\x06\x71\x00\x01\x01\x01"},
		{"Method (M, 0, 0, 0) {F (1)}", "\x14M\x00\x00\x00\x00\x00\x00\x08\x3fF\x00\x00\x00\x01\x01"},
		{"Name (B, Buffer (2) {3})", "\x13B\x00\x00\x00\x30\x0a\x02\x03\x0a\x03"},
	} {
		code, e := Compile(parse(t, c.src))
		if code != c.code || e != api.OK {
			t.Errorf("%s: %x %d", c.src, code, e)
		}
	}
	if code, e := Compile([]api.Node{{}}); code != "" || e != api.ErrInvalid {
		t.Error(e)
	}
	var p []api.Node
	for range 300 {
		p = append(p, api.Node{Op: api.OpNameDecl, Kids: 2}, api.Node{Op: api.OpName, Str: "A"}, api.Node{Op: api.OpString, Str: strings.Repeat("x", 250)})
	}
	if code, e := Compile(p); code != "" || e != api.ErrOverflow {
		t.Error(len(code), e)
	}
}

// P6.2: disassembling compiled programs.
func TestRoundTrip(t *testing.T) {
	p := parse(t, sample)
	code, _ := Compile(p)
	q, at, e := Disassemble(code)
	if !reflect.DeepEqual(p, q) || at != 0 || e != api.OK {
		t.Error(at, e, syntax.Format(q))
	}
	for i := range len(code) {
		q, at, e := Disassemble(code[:i])
		if e == api.OK {
			again, _ := Compile(q)
			if again != code[:i] {
				t.Error("prefix", i)
			}
		} else if e != api.ErrTruncated || q != nil || at > i {
			t.Error("prefix", i, at, e)
		}
	}
	for i := range len(code) {
		for _, c := range []byte{0, 1, 0x0a, 0x41, 0x7f, 0x80, 0xff} {
			changed := code[:i] + string([]byte{c}) + code[i+1:]
			if q, at, e := Disassemble(changed); e == api.OK {
				if again, _ := Compile(q); again != changed {
					t.Error("two codes for one program", i)
				}
			} else if q != nil || at < 0 || at > len(code) {
				t.Error(i, at, e)
			}
		}
	}
}

// P6.2: the first item that cannot be decoded.
func TestErrors(t *testing.T) {
	const method = "\x14M\x00\x00\x00\x00\x00\x00"
	for _, c := range []struct {
		code string
		at   int
		e    api.Errno
	}{
		{"\x13", 1, api.ErrTruncated}, {"\x13\x5f", 1, api.ErrTruncated}, {"\x13A\x00\x00\x00", 5, api.ErrTruncated}, {"\x13A\x00\x00\x00\x0b\x01", 5, api.ErrTruncated},
		{"A", 0, api.ErrMalformed}, {"\x00", 0, api.ErrMalformed}, {"\x18A\x00\x00\x00\x01", 0, api.ErrMalformed}, {"\x70", 0, api.ErrMalformed}, {"\x13\x0a", 1, api.ErrMalformed},
		{"\x13\x5cA\x00\x00\x00\x01", 1, api.ErrMalformed}, {"\x13\x5cA", 1, api.ErrTruncated}, {"\x13A\x00\x00\x00\x80", 5, api.ErrMalformed}, {"\x13A\x00\x00\x00\x0a\x01", 5, api.ErrMalformed},
		{"\x13A\x00\x00\x00B\x00\x00\x00", 5, api.ErrMalformed}, {"\x1aA\x00\x00\x00\x0dx", 5, api.ErrMalformed},
		{"\x10\x5c\x00", 3, api.ErrTruncated}, {"\x10\x5c\x00\x41", 3, api.ErrTruncated}, {"\x10\x5c\x00\x05\x1bE", 3, api.ErrTruncated}, {"\x10\x5c\x00\x00", 3, api.ErrMalformed},
		{"\x10\x5c\x00\x03\x1bE\x00\x00\x00", 5, api.ErrMalformed}, {"\x10\x5c\x00\x02\x1bE", 5, api.ErrMalformed}, {"\x10\x5c\x00\x04\x10\x5c\x00", 7, api.ErrMalformed},
		{"\x10\x5c\x00\x05\x10\x5c\x00\x05", 7, api.ErrMalformed}, {"\x10\x5c\x00\x02\x10", 5, api.ErrMalformed},
		{method + "\x02\x73", 10, api.ErrMalformed}, {method + "\x03\x73\x02", 10, api.ErrMalformed}, {method + "\x03\x73\x01", 11, api.ErrMalformed}, {method + "\x04\x73\x01\x6f", 11, api.ErrMalformed},
		{method + "\x08\x3fF\x00\x00\x00\x08\x01", 14, api.ErrMalformed}, {method + "\x05\x71\x01\x01\x02", 12, api.ErrMalformed}, {method + "\x04\x71\x01\x01", 12, api.ErrMalformed},
		{method + "\x03\x70\x01", 11, api.ErrMalformed}, {method + "\x04\x70\x01\x01", 11, api.ErrMalformed}, {method + "\x04\x70\x01\x80", 11, api.ErrMalformed}, {method + "\x02\x60", 9, api.ErrMalformed},
	} {
		p, at, e := Disassemble(c.code)
		if p != nil || at != c.at || e != c.e {
			t.Errorf("%x: %d %d, want %d %d", c.code, at, e, c.at, c.e)
		}
	}
}

// P6.2: the limits of code and programs.
func TestLimits(t *testing.T) {
	if _, at, e := Disassemble(strings.Repeat("A", api.MaxTable+1)); at != 0 || e != api.ErrOverflow {
		t.Error(at, e)
	}
	event := "\x1bE\x00\x00\x00"
	if p, _, e := Disassemble(strings.Repeat(event, 1024)); len(p) != 2048 || e != api.OK {
		t.Error(len(p), e)
	}
	if p, at, e := Disassemble(strings.Repeat(event, 1025)); p != nil || at != 0 || e != api.ErrOverflow {
		t.Error(at, e)
	}
	if _, at, e := Disassemble(strings.Repeat(event, 1025) + "A"); at != 5125 || e != api.ErrMalformed {
		t.Error(at, e)
	}
	body := "\x73\x01" + strings.Repeat("\x91", 62000) + "\x01"
	if _, at, e := Disassemble("\x14M\x00\x00\x00\x00\x00\x00" + bytecode.AppendLength("", len(body)) + body); at != 0 || e != api.ErrOverflow {
		t.Error("deep", at, e)
	}
}
