package bytecode

import (
	"reflect"
	"strings"
	"testing"

	"platformfw/api"
	"platformfw/nspath"
)

// prefixes tests that a decoder accepts an encoding with and without further bytes, and that all its proper prefixes are truncated.
func prefixes(t *testing.T, code string, length func(string) (int, api.Errno)) {
	t.Helper()
	for i := range len(code) {
		if n, e := length(code[:i]); n != 0 || e != api.ErrTruncated {
			t.Errorf("%x of %x: %d %d", code[:i], code, n, e)
		}
	}
	for _, s := range []string{code, code + "\x00", code + "AB\xff"} {
		if n, e := length(s); n != len(code) || e != api.OK {
			t.Errorf("%x: %d %d", s, n, e)
		}
	}
}

func intLength(s string) (int, api.Errno)    { _, n, e := Int(s); return n, e }
func lengthLength(s string) (int, api.Errno) { _, n, e := Length(s); return n, e }
func stringLength(s string) (int, api.Errno) { _, n, e := String(s); return n, e }
func pathLength(s string) (int, api.Errno)   { _, n, e := Path(s); return n, e }

// P5.1: the forms of integers.
func TestInt(t *testing.T) {
	for _, c := range []struct {
		v    uint64
		code string
	}{
		{0, "\x00"}, {1, "\x01"}, {1<<64 - 1, "\xff"}, {2, "\x0a\x02"}, {255, "\x0a\xff"}, {256, "\x0b\x00\x01"}, {300, "\x0b\x2c\x01"}, {65535, "\x0b\xff\xff"},
		{65536, "\x0c\x00\x00\x01\x00"}, {1<<32 - 1, "\x0c\xff\xff\xff\xff"}, {1 << 32, "\x0e\x00\x00\x00\x00\x01\x00\x00\x00"}, {1<<64 - 2, "\x0e\xfe\xff\xff\xff\xff\xff\xff\xff"},
	} {
		if s := AppendInt("x", c.v); s != "x"+c.code {
			t.Errorf("%d: %x", c.v, s)
		}
		if v, _, _ := Int(c.code + "z"); v != c.v {
			t.Error(c.v, v)
		}
		prefixes(t, c.code, intLength)
	}
	for _, s := range []string{"\x02", "\x0d", "\x0a\x00", "\x0a\x01", "\x0b\xff\x00", "\x0c\xff\xff\x00\x00", "\x0e\xff\xff\xff\xff\x00\x00\x00\x00", "\x0e\xff\xff\xff\xff\xff\xff\xff\xff"} {
		if v, n, e := Int(s); v != 0 || n != 0 || e != api.ErrMalformed {
			t.Errorf("%x: %d %d %d", s, v, n, e)
		}
	}
}

// P5.2: the forms of package lengths.
func TestLength(t *testing.T) {
	for _, c := range []struct {
		n    int
		code string
	}{
		{0, "\x01"}, {62, "\x3f"}, {63, "\x41\x04"}, {4093, "\x4f\xff"}, {4094, "\x81\x00\x01"}, {1<<20 - 4, "\x8f\xff\xff"}, {1<<20 - 3, "\xc1\x00\x00\x01"}, {1<<28 - 5, "\xcf\xff\xff\xff"},
	} {
		if s := AppendLength("x", c.n); s != "x"+c.code {
			t.Errorf("%d: %x", c.n, s)
		}
		if n, _, _ := Length(c.code); n != c.n {
			t.Error(c.n, n)
		}
		prefixes(t, c.code, lengthLength)
	}
	for _, n := range []int{-1, 1<<28 - 4, 1 << 28, 1<<63 - 1, -1 << 63} {
		if AppendLength("x", n) != "x" {
			t.Error(n)
		}
	}
	for _, s := range []string{"\x00", "\x40\x00", "\x4f\x03", "\x40\x04", "\x50", "\xb0", "\x80\x00\x01", "\xc0\x00\x00\x01", "\xff\xff\xff\xff"} {
		if n, l, e := Length(s); n != 0 || l != 0 || e != api.ErrMalformed {
			t.Errorf("%x: %d %d %d", s, n, l, e)
		}
	}
}

// P5.3: strings.
func TestString(t *testing.T) {
	for _, v := range []string{"", "a", "\x00\xff", strings.Repeat("z", 255)} {
		code := AppendString("", v)
		if code != "\x0d"+string([]byte{byte(len(v))})+v {
			t.Errorf("%x", code)
		}
		if w, _, _ := String(code + "more"); w != v {
			t.Error(w)
		}
		prefixes(t, code, stringLength)
	}
	if AppendString("b", strings.Repeat("z", 256)) != "b" {
		t.Error("long string")
	}
	if _, _, e := String("\x0a"); e != api.ErrMalformed {
		t.Error(e)
	}
}

// P5.4: paths.
func TestPath(t *testing.T) {
	up := strings.Repeat("\x5e", 32)
	for _, c := range []struct{ path, code string }{
		{"\\", "\x5c\x00"}, {"^", "\x5e\x00"}, {"A", "A\x00\x00\x00"}, {"\\_SB", "\x5c_SB\x00"}, {"AB.CDEF", "\x2eAB\x00\x00CDEF"}, {"^^A.B.C9", "\x5e\x5e\x2f\x03A\x00\x00\x00B\x00\x00\x00C9\x00\x00"},
		{strings.Repeat("^", 32), up + "\x00"}, {strings.Repeat("^", 31) + "A", up[1:] + "A\x00\x00\x00"}, {strings.Repeat("^", 30) + "A.B", up[2:] + "\x2eA\x00\x00\x00B\x00\x00\x00"},
		{strings.Repeat("^", 29) + "A.A.A", up[3:] + "\x2f\x03" + strings.Repeat("A\x00\x00\x00", 3)},
		{"\\" + strings.Repeat("A.", 31) + "A", "\x5c\x2f\x20" + strings.Repeat("A\x00\x00\x00", 32)},
	} {
		p, _ := nspath.Parse(c.path)
		if s := AppendPath("x", p); s != "x"+c.code {
			t.Errorf("%s: %x", c.path, s)
		}
		if q, _, _ := Path(c.code + "Z"); !reflect.DeepEqual(p, q) {
			t.Error(c.path, q)
		}
		prefixes(t, c.code, pathLength)
	}
	if AppendPath("x", api.Path{}) != "x" {
		t.Error("invalid path")
	}
	for _, s := range []string{"\x00", "a", "1", "A\x00B", "Aa", "A\x00\x00B", "\x5c\x5c", "\x5c\x5e", "\x5e\x5c", "\x2f\x02", "\x2f\x21", "\x2e\x00", up + "\x5e", up + "A", up[1:] + "\x2e", up[2:] + "\x2f", up[3:] + "\x2f\x04", "\x2eA\x00\x00\x00\x00", "\xff"} {
		if p, n, e := Path(s); !reflect.DeepEqual(p, api.Path{}) || n != 0 || e != api.ErrMalformed {
			t.Errorf("%x: %v %d %d", s, p, n, e)
		}
	}
}

// P5.5: opcodes.
func TestCodeAndOp(t *testing.T) {
	for _, c := range []struct {
		op   int
		code byte
	}{{10, 0x10}, {21, 0x1B}, {30, 0x70}, {42, 0x7C}, {50, 0x30}, {51, 0x31}, {60, 0x80}, {88, 0x9C}, {api.OpCall, 0x3F}, {api.OpLocal, 0x60}, {api.OpArg, 0x68}} {
		code, ok := Code(c.op)
		op, known := Op(c.code)
		if code != c.code || !ok || op != c.op || !known {
			t.Error(c, code, op)
		}
	}
	count := 0
	for c := range 256 {
		if op, ok := Op(byte(c)); ok {
			count++
			if back, _ := Code(op); back != byte(c) {
				t.Error(c, op)
			}
		} else if op != 0 {
			t.Error(c, op)
		}
	}
	if count != 12+13+2+29+3 {
		t.Error(count)
	}
	for _, op := range []int{-1, 0, 1, 2, 3, 4, 9, 22, 29, 43, 49, 52, 59, 89} {
		if c, ok := Code(op); c != 0 || ok {
			t.Error(op)
		}
	}
}
