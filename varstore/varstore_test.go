package varstore

import (
	"slices"
	"strconv"
	"strings"
	"testing"

	"platformfw/api"
	"platformfw/flash"
)

func newFlash(t *testing.T, b, p, e int) *flash.Flash {
	t.Helper()
	f, err := flash.New(api.FlashShape{Blocks: b, Pages: p, Endurance: e})
	if err != api.OK {
		t.Fatal(err)
	}
	return f
}

func open(t *testing.T, f *flash.Flash) *Store {
	t.Helper()
	s, e := Open(f)
	if e != api.OK {
		t.Fatal(e)
	}
	return s
}

func formatted(t *testing.T, b, p, e int) (*flash.Flash, *Store) {
	t.Helper()
	f := newFlash(t, b, p, e)
	if e := Format(f); e != api.OK {
		t.Fatal(e)
	}
	return f, open(t, f)
}

func expect(t *testing.T, what string, got, want any) {
	t.Helper()
	if got != want {
		t.Errorf("%s: got %v, want %v", what, got, want)
	}
}

func text(s *Store) string {
	out := ""
	for _, v := range s.List() {
		out += v.Name + "=" + v.Value + " "
	}
	return strings.TrimSpace(out)
}

func raw(f *flash.Flash, b, p int) string {
	s, _ := f.Read(b, p)
	return strings.TrimRight(s, "\xff")
}

// P41.1: formatting.
func TestFormat(t *testing.T) {
	for _, s := range [][2]int{{1, 2}, {2, 1}} {
		f := newFlash(t, s[0], s[1], 5)
		_, e := Open(f)
		if Format(f) != api.ErrInvalid || e != api.ErrInvalid {
			t.Error(s)
		}
	}
	f := newFlash(t, 3, 2, 2)
	f.Program(0, 1, strings.Repeat("\x00", 64))
	expect(t, "format", Format(f), api.OK)
	expect(t, "erases", f.Erases(0)*100+f.Erases(1)*10+f.Erases(2), 100)
	expect(t, "header", raw(f, 1, 0), "\x03\x00\x08\x00\x54\x00\x00\x00\x00\x00\x00\x00\x01")
	expect(t, "others", raw(f, 0, 0)+raw(f, 2, 0), "")
	f.Program(0, 0, strings.Repeat("\x00", 64))
	f.Erase(0)
	f.Program(0, 0, strings.Repeat("\x00", 64))
	expect(t, "worn out", Format(f), api.ErrFault)
	f.PowerOff()
	expect(t, "down", Format(f), api.ErrDown)
}

// P41.2: opening.
func TestOpen(t *testing.T) {
	f := newFlash(t, 3, 4, 9)
	_, e := Open(f)
	expect(t, "nothing", e, api.ErrNotFound)
	put := func(b, p int, r record) { program(f, b, p, r.encode()) }
	put(1, 0, headerRecord(7))
	put(2, 0, headerRecord(7))
	put(0, 0, headerRecord(6))
	put(1, 1, record{typeSet, "a", "1"})
	put(1, 2, headerRecord(99))
	put(1, 3, record{typeDelete, "a", ""})
	s := open(t, f)
	expect(t, "generation", s.Generation(), uint64(7))
	expect(t, "block", s.block, 1)
	expect(t, "deleted", text(s), "")
	f.Erase(1)
	put(2, 1, record{typeSet, "b", "2"})
	f.Program(2, 2, strings.Repeat("\x01", 64))
	put(2, 3, record{typeSet, "c", "3"})
	s = open(t, f)
	expect(t, "closed", s.closed && s.block == 2 && text(s) == "b=2", true)
	f.Program(2, 0, strings.Repeat("\x00", 64))
	expect(t, "other block", open(t, f).Generation(), uint64(6))
	f.PowerOff()
	_, e = Open(f)
	expect(t, "down", e, api.ErrDown)
}

// P41.2: which records are valid.
func TestRecords(t *testing.T) {
	good := record{typeSet, "name", strings.Repeat("v", 128)}
	code := good.encode()
	if r, n, ok := decode(code + "x"); r != good || n != 3 || !ok || len(code) != 192 {
		t.Error("long record", n, ok)
	}
	for i := range code {
		for bit := range 8 {
			changed := code[:i] + string([]byte{code[i] ^ 1<<bit}) + code[i+1:]
			if _, _, ok := decode(changed); ok {
				t.Error("accepted", i, bit)
			}
		}
	}
	for i, r := range []record{{typeSet, "", "v"}, {typeSet, strings.Repeat("n", 25), ""}, {typeSet, "n", strings.Repeat("v", 129)}, {typeDelete, "n", "v"}, {typeDelete, "", ""}, {typeHeader, "n", "12345678"}, {typeHeader, "", "1234567"}, {4, "n", ""}, {0, "n", ""}} {
		if _, _, ok := decode(r.encode()); ok {
			t.Error(i)
		}
	}
	for _, s := range []string{"", code[:4], code[:64], code[:191]} {
		if _, _, ok := decode(s); ok {
			t.Error(len(s))
		}
	}
}

// P41.3 and P41.4: reading and changing variables.
func TestSetGetDelete(t *testing.T) {
	f, s := formatted(t, 2, 8, 9)
	expect(t, "set", s.Set("a", "1"), api.OK)
	expect(t, "record", raw(f, 0, 1), "\x01\x01\x01\x00\x1f\x61\x31")
	expect(t, "same", s.Set("a", "1"), api.OK)
	expect(t, "no effect", raw(f, 0, 2), "")
	v, e := s.Get("a")
	expect(t, "get", v == "1" && e == api.OK, true)
	_, e = s.Get("b")
	expect(t, "get", e, api.ErrNotFound)
	expect(t, "empty value", s.Set("B", ""), api.OK)
	expect(t, "delete", s.Delete("a"), api.OK)
	expect(t, "deleted", raw(f, 0, 3)[:3], "\x02\x01\x00")
	expect(t, "delete again", s.Delete("a"), api.ErrNotFound)
	for _, name := range []string{"", strings.Repeat("n", 25)} {
		expect(t, "name", s.Set(name, "x"), api.ErrInvalid)
		expect(t, "name", s.Delete(name), api.ErrInvalid)
	}
	expect(t, "value", s.Set("a", strings.Repeat("v", 129)), api.ErrInvalid)
	expect(t, "longest", s.Set(strings.Repeat("n", 24), strings.Repeat("v", 128)), api.OK)
	if l := open(t, f).List(); !slices.Equal(l, s.List()) || len(l) != 2 || l[0] != (api.Variable{Name: "B"}) {
		t.Error(l)
	}
	expect(t, "next", s.next, 7)
	f.PowerOff()
	expect(t, "no change needed", s.Set("B", ""), api.OK)
	expect(t, "down", s.Set("B", "x"), api.ErrDown)
	expect(t, "down", s.Delete("B"), api.ErrDown)
	expect(t, "not found first", s.Delete("z"), api.ErrNotFound)
}

// P41.4: compaction and its target.
func TestCompact(t *testing.T) {
	f, s := formatted(t, 3, 4, 2)
	for i := range 3 {
		s.Set("k"+strconv.Itoa(i), "v")
	}
	expect(t, "compaction does not help", s.Set("x", "y"), api.ErrFull)
	s.Set("k0", "w")
	expect(t, "target", s.block, 1)
	expect(t, "generation", s.Generation(), uint64(2))
	expect(t, "sorted", raw(f, 1, 1)[5:], "k0w")
	expect(t, "old block", raw(f, 0, 1) != "", true)
	s.Delete("k1")
	expect(t, "smallest of the least erased", s.block, 0)
	s.Set("k1", "z")
	s.Set("k1", "y")
	expect(t, "least erased", s.block, 1)
	expect(t, "erased", f.Erases(0)*10+f.Erases(1), 11)
	expect(t, "variables", text(open(t, f)), "k0=w k1=y k2=v")
	for i := range 9 {
		s.Set("k2", strconv.Itoa(i))
	}
	expect(t, "worn out", s.Set("k2", "last"), api.ErrFull)
	expect(t, "erases", f.Erases(0)+f.Erases(1)+f.Erases(2) <= 6, true)
	f, s = formatted(t, 2, 4, 9)
	f.Program(0, 1, strings.Repeat("\x00", 64))
	s = open(t, f)
	expect(t, "closed", s.Set("a", "b"), api.OK)
	expect(t, "compacted", s.block, 1)
	f, s = formatted(t, 2, 4, 9)
	f.Program(0, 2, strings.Repeat("\x00", 64))
	expect(t, "a page that should be erased", s.Set("a", strings.Repeat("v", 100)), api.ErrState)
}

// P41.4: a power loss at any operation leaves the old or the new state.
func TestPowerLoss(t *testing.T) {
	base, _ := formatted(t, 3, 5, 50)
	s := open(t, base)
	history := []api.Variable{{Name: "a", Value: "1"}, {Name: "b", Value: strings.Repeat("x", 120)}, {Name: "a", Value: "2"}, {Name: "c", Value: "3"}, {Name: "b", Value: "short"}, {Name: "a"}, {Name: "d", Value: "4"}, {Name: "c"}, {Name: "a", Value: strings.Repeat("y", 64)}}
	apply := func(s *Store, v api.Variable) api.Errno {
		if v.Value == "" {
			return s.Delete(v.Name)
		}
		return s.Set(v.Name, v.Value)
	}
	for _, v := range history {
		before := text(s)
		for cut := range 8 {
			for _, torn := range []uint64{0, 1, 1<<64 - 1, 0x5555555555555555, 0xFF00FF00FF00FF00, 0x0123456789ABCDEF, 1 << 63, 0xF0F0} {
				f := base.Copy()
				trial := open(t, f)
				f.CutAfter(cut, torn)
				e := apply(trial, v)
				f.CutAfter(-1, 0)
				f.PowerOn()
				after := open(t, f)
				got := text(after)
				apply(after, v)
				if again := text(open(t, f)); e == api.OK && got != again || got != before && got != again {
					t.Fatal(v, cut, torn, got)
				}
			}
		}
		if e := apply(s, v); e != api.OK {
			t.Fatal(v, e)
		}
	}
}
