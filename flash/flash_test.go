package flash

import (
	"strings"
	"testing"

	"platformfw/api"
)

func data(c string) string { return strings.Repeat(c, api.FlashBytes/len(c)) }

func shape(b, p, e int) api.FlashShape { return api.FlashShape{Blocks: b, Pages: p, Endurance: e} }

func newFlash(t *testing.T, b, p, e int) *Flash {
	t.Helper()
	f, err := New(shape(b, p, e))
	if err != api.OK {
		t.Fatal(err)
	}
	return f
}

func expect(t *testing.T, what string, got, want any) {
	t.Helper()
	if got != want {
		t.Errorf("%s: got %v, want %v", what, got, want)
	}
}

func page(t *testing.T, f *Flash, b, p int, want string) {
	t.Helper()
	if got, e := f.Read(b, p); got != want || e != api.OK {
		t.Errorf("%d %d: %x %d, want %x", b, p, got, e, want)
	}
}

// P40.1: shapes.
func TestNew(t *testing.T) {
	for i, s := range []api.FlashShape{shape(0, 1, 1), shape(33, 1, 1), shape(1, 0, 1), shape(1, 33, 1), shape(1, 1, -1), shape(1, 1, 1<<20+1)} {
		if f, e := New(s); f != nil || e != api.ErrInvalid {
			t.Error(i, e)
		}
	}
	f := newFlash(t, 32, 32, 1<<20)
	expect(t, "shape", f.Shape(), shape(32, 32, 1<<20))
	page(t, f, 31, 31, data("\xff"))
	expect(t, "erases", f.Erases(31), 0)
	expect(t, "power", f.PowerOn(), api.ErrState)
}

// P40.2: reading, programming and erasing.
func TestOperations(t *testing.T) {
	f := newFlash(t, 2, 2, 1)
	expect(t, "program", f.Program(0, 1, data("\x0f")), api.OK)
	expect(t, "clear more bits", f.Program(0, 1, data("\x07")), api.OK)
	expect(t, "set a bit", f.Program(0, 1, data("\x08")), api.ErrState)
	page(t, f, 0, 1, data("\x07"))
	page(t, f, 0, 0, data("\xff"))
	f.Program(1, 0, data("\x00"))
	expect(t, "erase", f.Erase(0), api.OK)
	page(t, f, 0, 1, data("\xff"))
	page(t, f, 1, 0, data("\x00"))
	expect(t, "worn out", f.Erase(0), api.ErrFault)
	expect(t, "erases", f.Erases(0)*10+f.Erases(1), 10)
	expect(t, "erases", f.Erases(2)+f.Erases(-1), 0)
	for _, c := range [][2]int{{-1, 0}, {2, 0}, {0, -1}, {0, 2}} {
		_, e := f.Read(c[0], c[1])
		expect(t, "read", e, api.ErrInvalid)
		expect(t, "program", f.Program(c[0], c[1], data("\x00")), api.ErrInvalid)
	}
	expect(t, "erase", f.Erase(-1), api.ErrInvalid)
	expect(t, "erase", f.Erase(2), api.ErrInvalid)
	expect(t, "short", f.Program(0, 0, "x"), api.ErrInvalid)
	expect(t, "off", f.PowerOff(), api.OK)
	expect(t, "off again", f.PowerOff(), api.ErrState)
	_, e := f.Read(0, 0)
	expect(t, "down", e, api.ErrDown)
	expect(t, "down", f.Program(1, 0, data("\xff")), api.ErrDown)
	expect(t, "down", f.Erase(0), api.ErrDown)
	expect(t, "invalid first", f.Program(0, 0, "x"), api.ErrInvalid)
	expect(t, "on", f.PowerOn(), api.OK)
	page(t, f, 1, 0, data("\x00"))
	expect(t, "no endurance", newFlash(t, 1, 1, 0).Erase(0), api.ErrFault)
}

// P40.3: interrupted operations.
func TestCutAfter(t *testing.T) {
	f := newFlash(t, 2, 2, 5)
	f.CutAfter(0, 1)
	expect(t, "interrupted", f.Program(0, 0, data("\x00")), api.ErrDown)
	f.PowerOn()
	page(t, f, 0, 0, data("\xfe\xff\xff\xff\xff\xff\xff\xff"))
	f.Erase(0)
	f.Program(0, 0, data("\xf0"))
	f.CutAfter(1, 0x0F00000000000081)
	expect(t, "would not succeed", f.Program(0, 0, data("\xff")), api.ErrState)
	expect(t, "performed", f.Program(0, 1, data("\x00")), api.OK)
	expect(t, "interrupted", f.Erase(0), api.ErrDown)
	expect(t, "erases", f.Erases(0), 2)
	f.PowerOn()
	page(t, f, 0, 0, data("\xf1\xf0\xf0\xf0\xf0\xf0\xf0\xff"))
	page(t, f, 0, 1, data("\x81\x00\x00\x00\x00\x00\x00\x0f"))
	expect(t, "the plan is gone", f.Erase(0), api.OK)
	f.CutAfter(0, 0)
	f.CutAfter(-1, 0)
	expect(t, "removed", f.Erase(0), api.OK)
	f.CutAfter(0, 0)
	f.PowerOff()
	f.PowerOn()
	expect(t, "a power loss removes the plan", f.Erase(0), api.OK)
	f.CutAfter(9, 0)
	f.CutAfter(0, 1<<64-1)
	expect(t, "replaced", f.Program(1, 1, data("\x11")), api.ErrDown)
	f.PowerOn()
	page(t, f, 1, 1, data("\x11"))
}

// P40.4: copies.
func TestCopy(t *testing.T) {
	f := newFlash(t, 1, 1, 3)
	f.Program(0, 0, data("\x0f"))
	f.CutAfter(1, 1<<64-1)
	c := f.Copy()
	c.Program(0, 0, data("\x01"))
	page(t, f, 0, 0, data("\x0f"))
	expect(t, "same plan", c.Erase(0), api.ErrDown)
	expect(t, "independent", f.Erase(0), api.OK)
	expect(t, "plan", f.Erase(0), api.ErrDown)
	expect(t, "erases", f.Erases(0)*10+c.Erases(0), 21)
}
