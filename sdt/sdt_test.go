package sdt

import (
	"reflect"
	"strings"
	"testing"

	"platformfw/api"
)

func table(signature string, revision int, oem, body string) api.Table {
	return api.Table{Signature: signature, Revision: revision, OEM: oem, Body: body}
}

// resum corrects the checksum of an encoding.
func resum(s string) string {
	return s[:9] + string([]byte{s[9] - Sum(s)}) + s[10:]
}

// P7.1: sums, validity and encoding.
func TestEncode(t *testing.T) {
	if Sum("") != 0 || Sum("\xff\x02") != 1 {
		t.Error("sum")
	}
	s, e := Encode(table("SSDT", 2, "ME", ""))
	if e != api.OK || s != "SSDT\x10\x00\x00\x00\x02"+s[9:10]+"ME\x00\x00\x00\x00" || Sum(s) != 0 {
		t.Errorf("%x %d", s, e)
	}
	for _, c := range []api.Table{table("SSDT", 0, "", strings.Repeat("x", api.MaxTable)), table("0AZ9", 255, "\x00abcde", "b")} {
		s, e := Encode(c)
		back, n, e2 := Decode(s + "tail")
		if !Valid(c) || e != api.OK || e2 != api.OK || n != len(s) || back != c {
			t.Error(c.Signature, e, e2)
		}
	}
	for i, c := range []api.Table{table("SSD", 0, "", ""), table("SSDTX", 0, "", ""), table("SsDT", 0, "", ""), table("SS_T", 0, "", ""), table("SSDT", -1, "", ""), table("SSDT", 256, "", ""), table("SSDT", 0, "abcdefg", ""), table("SSDT", 0, "a\x00", ""), table("SSDT", 0, "", strings.Repeat("x", api.MaxTable+1))} {
		if s, e := Encode(c); Valid(c) || s != "" || e != api.ErrInvalid {
			t.Error(i, e)
		}
	}
}

// P7.2: errors of Decode in their order.
func TestDecode(t *testing.T) {
	s, _ := Encode(table("SSDT", 7, "ME", "body"))
	for _, c := range []struct {
		s string
		e api.Errno
	}{
		{"", api.ErrTruncated}, {s[:15], api.ErrTruncated}, {s[:19], api.ErrTruncated}, {"ss" + s[2:], api.ErrMalformed}, {"ss" + s[2:15], api.ErrTruncated},
		{s[:4] + "\x0f" + s[5:], api.ErrMalformed}, {s[:4] + "\x11\x00\x01" + s[7:], api.ErrMalformed}, {s[:4] + "\x10\x00\x01" + s[7:], api.ErrTruncated}, {s[:7] + "\x80" + s[8:], api.ErrMalformed}, {s[:19] + "Y", api.ErrChecksum},
	} {
		if got, n, e := Decode(c.s); got != (api.Table{}) || n != 0 || e != c.e {
			t.Errorf("%x: %d", c.s, e)
		}
	}
	for i := range len(s) {
		if i < 4 || i > 7 {
			if _, _, e := Decode(s[:i] + string([]byte{s[i] ^ 1}) + s[i+1:]); e == api.OK {
				t.Error("changed byte", i)
			}
		}
	}
}

// P7.3: sets.
func TestSets(t *testing.T) {
	l := []api.Table{table("DSDT", 1, "A", "first"), table("SSDT", 2, "", ""), table("SSDT", 2, "", "x")}
	s, e := EncodeSet(l)
	back, e2 := DecodeSet(s)
	if e != api.OK || e2 != api.OK || !reflect.DeepEqual(l, back) || s[:4] != "RSDT" || s[16:20] != "\x1c\x00\x00\x00" {
		t.Error(e, e2, back)
	}
	for i, bad := range [][]api.Table{nil, make([]api.Table, 17), {table("RSDT", 1, "", "")}, {l[0], table("x", 0, "", "")}} {
		if s, e := EncodeSet(bad); s != "" || e != api.ErrInvalid {
			t.Error(i, e)
		}
	}
	full := make([]api.Table, 16)
	for i := range full {
		full[i] = l[0]
	}
	if s, e := EncodeSet(full); e != api.OK || len(s) != 16+64+16*21 {
		t.Error("full set", e)
	}
	dir := func(t api.Table, rest string) string { s, _ := Encode(t); return s + rest }
	one := s[28:49]
	inner, _ := Encode(table("RSDT", 1, "", ""))
	for i, c := range []struct {
		s string
		e api.Errno
	}{
		{s[:10], api.ErrTruncated}, {s + "x", api.ErrMalformed}, {s[:len(s)-1], api.ErrTruncated}, {s[:30] + "x" + s[31:], api.ErrMalformed}, {s[:45] + "x" + s[46:], api.ErrChecksum},
		{resum(s[:16] + "\x1d" + s[17:28])[:28] + s[28:], api.ErrMalformed},
		{dir(table("RSDT", 1, "PLATFW", ""), ""), api.ErrMalformed}, {dir(table("RSDT", 1, "PLATFW", "\x13\x00\x00"), one), api.ErrMalformed}, {dir(table("RSDT", 1, "PLATFW", strings.Repeat("\x54\x00\x00\x00", 17)), ""), api.ErrMalformed},
		{dir(table("RSDT", 2, "PLATFW", "\x14\x00\x00\x00"), one), api.ErrMalformed}, {dir(table("RSDT", 1, "PLATF", "\x14\x00\x00\x00"), one), api.ErrMalformed}, {dir(table("DSDT", 1, "PLATFW", "\x14\x00\x00\x00"), one), api.ErrMalformed},
		{dir(table("RSDT", 1, "PLATFW", "\x14\x00\x00\x00"), one), api.OK}, {dir(table("RSDT", 1, "PLATFW", "\x14\x00\x00\x00"), inner), api.ErrMalformed},
	} {
		got, e := DecodeSet(c.s)
		if e != c.e || e != api.OK && got != nil {
			t.Error(i, e)
		}
	}
}
