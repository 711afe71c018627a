package field

import (
	"slices"
	"strings"
	"testing"

	"platformfw/api"
)

func spec(space int, base, length uint64, bit, n, width, update int) api.FieldSpec {
	return api.FieldSpec{Region: api.Region{Space: space, Base: base, Len: length}, Bit: bit, Len: n, Width: width, Update: update, Index: -1, Data: -1}
}

// P11.1: validity, and zero values for fields that are not valid.
func TestValid(t *testing.T) {
	for i, f := range []api.FieldSpec{spec(0, 0, 4, 6, 4, 1, 0), spec(1, 8, 8, 0, 64, 8, 2), spec(3, 255, 1, 0, 8, 1, 1), spec(3, 0, 256, 2047, 1, 1, 0), spec(0, 1<<64-8, 8, 63, 1, 4, 0), spec(0, 0, api.MaxRegion, 8*api.MaxRegion-256, 256, 8, 0)} {
		if !Valid(f) {
			t.Error(i)
		}
	}
	for i, f := range []api.FieldSpec{
		spec(2, 0, 4, 0, 1, 1, 0), spec(4, 0, 4, 0, 1, 1, 0), spec(-1, 0, 4, 0, 1, 1, 0), spec(0, 0, 0, 0, 1, 1, 0), spec(0, 0, api.MaxRegion+1, 0, 1, 1, 0), spec(0, 1<<64-4, 5, 0, 1, 1, 0), spec(3, 250, 7, 0, 1, 1, 0), spec(3, 1<<64-1, 1, 0, 1, 1, 0), spec(3, 0, 8, 0, 1, 2, 0),
		spec(0, 2, 8, 0, 1, 4, 0), spec(0, 0, 8, 0, 1, 3, 0), spec(0, 0, 8, 0, 1, 0, 0), spec(0, 0, 8, 0, 1, 16, 0), spec(0, 0, 8, 0, 1, 1, 3), spec(0, 0, 8, 0, 1, 1, -1), spec(0, 0, 8, -1, 1, 1, 0), spec(0, 0, 8, 0, 0, 1, 0), spec(0, 0, 64, 0, 257, 1, 0),
		spec(0, 0, 4, 30, 3, 1, 0), spec(0, 0, 7, 32, 8, 4, 0), spec(0, 0, 8, 1<<62, 8, 1, 0), spec(0, 0, 8, 1<<63-1, 8, 1, 0),
	} {
		first, n := Units(f)
		_, e := FromValue(f, api.Value{Kind: 1})
		if Valid(f) || first != 0 || n != 0 || Masks(f) != nil || Accesses(f) != nil || ReadsBeforeWrite(f) != nil || Extract(f, []uint64{0}) != "" || Insert(f, "", []uint64{0}) != nil || ToValue(f, "a") != (api.Value{}) || e != api.ErrInvalid {
			t.Error(i)
		}
	}
}

// P11.1: units, masks, accesses and reads before writes.
func TestUnits(t *testing.T) {
	f := spec(0, 0x100, 4, 6, 4, 1, 0)
	first, n := Units(f)
	if first != 0 || n != 2 || !slices.Equal(Masks(f), []uint64{0xC0, 3}) || !slices.Equal(ReadsBeforeWrite(f), []bool{true, true}) {
		t.Error(first, n, Masks(f))
	}
	f = spec(1, 0x100, 16, 40, 72, 4, 0)
	first, n = Units(f)
	if first != 1 || n != 3 || !slices.Equal(Masks(f), []uint64{0xFFFFFF00, 0xFFFFFFFF, 0xFFFF}) || !slices.Equal(ReadsBeforeWrite(f), []bool{true, false, true}) {
		t.Error(first, n, Masks(f))
	}
	want := []api.Access{{Space: 1, Addr: 0x104, Width: 4}, {Space: 1, Addr: 0x108, Width: 4}, {Space: 1, Addr: 0x10C, Width: 4}}
	if !slices.Equal(Accesses(f), want) {
		t.Error(Accesses(f))
	}
	f.Update = api.UpdateOnes
	if !slices.Equal(ReadsBeforeWrite(f), []bool{false, false, false}) {
		t.Error("ones")
	}
	if !slices.Equal(Masks(spec(0, 0, 8, 0, 64, 8, 0)), []uint64{1<<64 - 1}) {
		t.Error("wide mask")
	}
}

// P11.2: extraction and insertion.
func TestExtractInsert(t *testing.T) {
	f := spec(0, 0, 4, 6, 4, 1, 0)
	if s := Extract(f, []uint64{0x40, 0x02}); s != "\x09" {
		t.Errorf("%x", s)
	}
	if s := Extract(f, []uint64{0xFF40, 0xF02}); s != "\x09" {
		t.Errorf("%x", s)
	}
	if Extract(f, []uint64{1}) != "" || Extract(f, make([]uint64, 3)) != "" || Insert(f, "a", []uint64{1}) != nil {
		t.Error("wrong number of units")
	}
	for update, want := range [][]uint64{{0x6A, 0xAA}, {0x7F, 0xFE}, {0x40, 0x02}} {
		f.Update = update
		if got := Insert(f, "\xf9\xff", []uint64{0xFFAA, 0x1A9}); !slices.Equal(got, want) {
			t.Errorf("%d: %x", update, got)
		}
	}
	wide := spec(0, 0, 64, 3, 250, 8, 0)
	bits := strings.Repeat("\xa7", 31) + "\x02"
	old := []uint64{1<<64 - 1, 5, 7, 9}
	units := Insert(wide, bits, old)
	if Extract(wide, units) != bits || units[0]&7 != 7 || units[3]>>61 != 0 {
		t.Errorf("%x", units)
	}
	if got := Insert(wide, "", old); got[1] != 0 || got[0] != 7 {
		t.Errorf("%x", got)
	}
	if old[0] != 1<<64-1 {
		t.Error("argument changed")
	}
}

// P11.3: values of fields.
func TestValues(t *testing.T) {
	f := spec(0, 0, 64, 0, 12, 1, 0)
	if v := ToValue(f, "\xff\xff\xff"); v != (api.Value{Kind: 1, Int: 0xFFF}) {
		t.Error(v)
	}
	if v := ToValue(f, "\x05"); v != (api.Value{Kind: 1, Int: 5}) {
		t.Error(v)
	}
	f.Len = 64
	if v := ToValue(f, strings.Repeat("\x80", 8)); v != (api.Value{Kind: 1, Int: 0x8080808080808080}) {
		t.Error(v)
	}
	f.Len = 65
	if v := ToValue(f, "abcdefgh\xff"); v != (api.Value{Kind: 3, Str: "abcdefgh\x01"}) {
		t.Error(v)
	}
	for _, c := range []struct {
		n    int
		v    api.Value
		bits string
		e    api.Errno
	}{
		{12, api.Value{Kind: 1, Int: 0xABCDE}, "\xde\x0c", 0}, {80, api.Value{Kind: 1, Int: 1}, "\x01" + strings.Repeat("\x00", 9), 0}, {9, api.Value{Kind: 2, Str: "a"}, "a\x00", 0}, {9, api.Value{Kind: 3, Str: "a\xff\xff"}, "a\x01", 0},
		{8, api.Value{}, "", api.ErrType}, {8, api.Value{Kind: 4}, "", api.ErrType}, {8, api.Value{Kind: 9}, "", api.ErrInvalid}, {8, api.Value{Kind: 2, Str: strings.Repeat("x", 256)}, "", api.ErrInvalid},
	} {
		f.Len = c.n
		if bits, e := FromValue(f, c.v); bits != c.bits || e != c.e {
			t.Errorf("%v: %x %d", c, bits, e)
		}
	}
}
