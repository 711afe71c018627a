package blockdev

import (
	"slices"
	"strings"
	"testing"

	"platformfw/api"
)

func data(c string) string { return strings.Repeat(c, api.SectorBytes) }

func disk(t *testing.T, n int) *Disk {
	t.Helper()
	d, e := New(n)
	if e != api.OK {
		t.Fatal(e)
	}
	return d
}

func expect(t *testing.T, what string, got, want any) {
	t.Helper()
	if got != want {
		t.Errorf("%s: got %v, want %v", what, got, want)
	}
}

func content(d *Disk) string {
	s := ""
	for _, x := range d.Contents() {
		s += x[:1]
	}
	return s
}

// P32.1 and P32.2: reading, writing and flushing.
func TestReadWrite(t *testing.T) {
	for _, n := range []int{0, -1, 4097} {
		if d, e := New(n); d != nil || e != api.ErrInvalid {
			t.Error(n, e)
		}
	}
	d := disk(t, 4096)
	expect(t, "size", d.Size(), 4096)
	s, e := d.Read(4095)
	expect(t, "empty", s == data("\x00") && e == api.OK, true)
	expect(t, "write", d.Write(1, data("a")), api.OK)
	expect(t, "write", d.Write(1, data("b")), api.OK)
	s, _ = d.Read(1)
	expect(t, "last write", s, data("b"))
	expect(t, "pending", d.Pending(), 2)
	expect(t, "not durable", d.Contents()[1], data("\x00"))
	expect(t, "flush", d.Flush(), api.OK)
	expect(t, "durable", d.Contents()[1], data("b"))
	expect(t, "pending", d.Pending(), 0)
	for _, n := range []int{-1, 4096} {
		_, e := d.Read(n)
		expect(t, "sector", e, api.ErrInvalid)
		expect(t, "sector", d.Write(n, data("a")), api.ErrInvalid)
	}
	expect(t, "short", d.Write(0, "a"), api.ErrInvalid)
	expect(t, "long", d.Write(0, data("a")+"b"), api.ErrInvalid)
	d.PowerOff(nil)
	_, e = d.Read(0)
	expect(t, "down", e, api.ErrDown)
	_, e = d.Read(-1)
	expect(t, "invalid first", e, api.ErrInvalid)
	expect(t, "down", d.Write(0, data("a")), api.ErrDown)
	expect(t, "invalid first", d.Write(0, "a"), api.ErrInvalid)
	expect(t, "down", d.Flush(), api.ErrDown)
	l := d.Contents()
	l[1] = ""
	expect(t, "copy", d.Contents()[1], data("b"))
}

// P32.3: planned power losses.
func TestCutAfter(t *testing.T) {
	d := disk(t, 3)
	keep := []bool{false, true}
	d.CutAfter(2, keep)
	keep[0] = true
	d.Write(9, data("x"))
	d.Write(0, data("a"))
	d.Write(1, data("b"))
	expect(t, "cut", d.Write(2, data("c")), api.ErrDown)
	expect(t, "contents", content(d), "\x00b\x00")
	d.PowerOn()
	expect(t, "the plan is gone", d.Write(2, data("c")), api.OK)
	d.CutAfter(0, nil)
	d.CutAfter(-1, nil)
	expect(t, "removed", d.Write(2, data("d")), api.OK)
	d.CutAfter(5, nil)
	d.CutAfter(0, []bool{true})
	d.Flush()
	expect(t, "replaced", d.Write(0, data("e")), api.ErrDown)
	expect(t, "contents", content(d), "\x00bd")
	d.PowerOn()
	d.CutAfter(0, nil)
	d.PowerOff(nil)
	d.PowerOn()
	expect(t, "a power loss removes the plan", d.Write(0, data("f")), api.OK)
}

// P32.4 and P32.5: power losses.
func TestPower(t *testing.T) {
	for i, c := range []struct {
		keep []bool
		want string
	}{{[]bool{true, false}, "a\x00"}, {[]bool{false, true}, "b\x00"}, {[]bool{true, true, true, true, true}, "bc"}, {nil, "\x00\x00"}} {
		d := disk(t, 2)
		d.Write(0, data("a"))
		d.Write(0, data("b"))
		d.Write(1, data("c"))
		expect(t, "on", d.PowerOn(), api.ErrState)
		expect(t, "off", d.PowerOff(c.keep), api.OK)
		expect(t, "off again", d.PowerOff(c.keep), api.ErrState)
		if content(d) != c.want || d.Pending() != 0 {
			t.Errorf("%d: %q", i, content(d))
		}
		expect(t, "on", d.PowerOn(), api.OK)
		if s, _ := d.Read(0); s[:1] != c.want[:1] {
			t.Error(i, s)
		}
	}
	if !slices.Equal(disk(t, 1).Contents(), []string{data("\x00")}) {
		t.Error("contents")
	}
}
