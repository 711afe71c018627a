package image

import (
	"reflect"
	"slices"
	"strings"
	"testing"

	"platformfw/api"
)

func page(n int, c string) api.Page {
	return api.Page{Number: n, Data: strings.Repeat(c, api.PageBytes)}
}

func sample() api.Image {
	return api.Image{Board: api.Digest{1, 2, 31: 9}, Generation: 1<<63 + 5, Pages: []api.Page{page(0, "a"), page(7, "\x00"), page(1<<31-1, "b")}}
}

// P34.1: the checksum.
func TestChecksum(t *testing.T) {
	if Checksum("123456789") != 0xCBF43926 || Checksum("") != 0 || Checksum("\x00") != 0xD202EF8D {
		t.Error("checksum")
	}
}

// P34.2: headers.
func TestHeader(t *testing.T) {
	h := api.ImageHeader{Generation: 0x0102030405060708, Board: api.Digest{7, 31: 8}, Length: 0x11121314, Sum: 0x21222324}
	s := EncodeHeader(h)
	if len(s) != 64 || s[:12] != "HIB1\x08\x07\x06\x05\x04\x03\x02\x01" || s[12] != 7 || s[43] != 8 || s[44:52] != "\x14\x13\x12\x11\x24\x23\x22\x21" || s[56:] != "\x00\x00\x00\x00\x00\x00\x00\x00" {
		t.Errorf("%x", s)
	}
	if back, e := DecodeHeader(s); back != h || e != api.OK {
		t.Error(back, e)
	}
	for i := range 64 {
		want := api.ErrChecksum
		if i < 4 || i >= 56 {
			want = api.ErrMalformed
		}
		if back, e := DecodeHeader(s[:i] + string([]byte{s[i] ^ 1}) + s[i+1:]); e != want || back != (api.ImageHeader{}) {
			t.Error(i, e)
		}
	}
	for _, bad := range []string{"", s[:63], s + "\x00"} {
		if _, e := DecodeHeader(bad); e != api.ErrMalformed {
			t.Error(e)
		}
	}
}

// P34.3: encoding.
func TestEncode(t *testing.T) {
	if l, e := Encode(api.Image{}); len(l) != 1 || e != api.OK {
		t.Error(len(l), e)
	}
	l, e := Encode(sample())
	want := "\x00\x00\x00\x00\x59\x00\x01\x57" // a new word, then the same one again
	if e != api.OK || !strings.HasPrefix(l[1], want[:4]) || len(l) != 1+(3*6+17+2*(17+4+63)+63)/64 {
		t.Errorf("%d %x", len(l), l[1])
	}
	full := make([]api.Page, 512)
	for i := range full {
		full[i] = page(i, "\x00")
	}
	if _, e := Encode(api.Image{Pages: full}); e != api.OK {
		t.Error(e)
	}
	for i, pages := range [][]api.Page{append(full, page(512, "a")), {page(0, "ab")}, {{Number: 1}}, {page(-1, "a")}, {page(1<<31, "a")}, {page(1, "a"), page(1, "a")}, {page(2, "a"), page(1, "a")}} {
		if l, e := Encode(api.Image{Pages: pages}); l != nil || e != api.ErrInvalid {
			t.Error(i, e)
		}
	}
}

// P34.4: decoding.
func TestDecode(t *testing.T) {
	l, _ := Encode(sample())
	if got, e := Decode(append(slices.Clone(l), strings.Repeat("x", 64))); !reflect.DeepEqual(got, sample()) || e != api.OK {
		t.Error(e)
	}
	l2 := slices.Clone(l)
	last := len(l) - 1
	l2[last] = l2[last][:63] + "\xff"
	if _, e := Decode(l2); e != api.OK {
		t.Error("bytes after the body", e)
	}
	l2[1] = "\x01" + l2[1][1:]
	if got, e := Decode(l2); e != api.ErrChecksum || !reflect.DeepEqual(got, api.Image{}) {
		t.Error(e)
	}
	body := func(s string) []string {
		out := []string{EncodeHeader(api.ImageHeader{Length: uint32(len(s)), Sum: Checksum(s)})}
		for len(s) > 0 {
			n := min(64, len(s))
			out = append(out, s[:n]+strings.Repeat("\x00", 64-n))
			s = s[n:]
		}
		return out
	}
	zero := "\x11\x00\x01" + strings.Repeat("\x00", 16)
	for i, c := range []struct {
		s []string
		e api.Errno
	}{
		{nil, api.ErrMalformed}, {append(slices.Clone(l), "x"), api.ErrMalformed}, {[]string{strings.Repeat("x", 64), "x"}, api.ErrMalformed}, {append([]string{strings.Replace(l[0], "\x01\x02", "\x01\x03", 1)}, l[1:]...), api.ErrChecksum}, {l[:last], api.ErrTruncated}, {l[:1], api.ErrTruncated},
		{body("\x00\x00\x00\x00" + zero), 0}, {body("\x00\x00\x00\x80" + zero), api.ErrMalformed}, {body("\x01\x00\x00\x00" + zero + "\x01\x00\x00\x00" + zero), api.ErrMalformed}, {body("\x01\x00\x00\x00" + zero + "\x00"), api.ErrMalformed}, {body("\x01\x00\x00\x00" + zero[:18]), api.ErrMalformed}, {body("\x01\x00\x00\x00\x00\x00"), api.ErrMalformed},
	} {
		if _, e := Decode(c.s); e != c.e {
			t.Error(i, e)
		}
	}
}
