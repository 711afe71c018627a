package pagezip

import (
	"strings"
	"testing"

	"platformfw/api"
)

func pad(s string) string { return s + strings.Repeat("\x00", api.PageBytes-len(s)) }

// P33.1: compressed forms.
func TestCompress(t *testing.T) {
	zeros := strings.Repeat("\x00", 15)
	for i, c := range []struct{ page, form string }{
		{pad(""), "\x01\x00" + zeros},
		{pad("\x01\x00\x00\x00"), "\x01\x02" + zeros + "\x00\x01\x00"},
		{pad("\x01\x02\x03\x04"), "\x01\x03" + zeros + "\x01\x02\x03\x04"},
		{pad("\x01\x02\x03\x04\x01\x02\x03\x04\x09\x08\x03\x04\x01\x02\x13\x04"), "\x01" + "\xe7" + zeros + "\x01\x02\x03\x04" + "\x03" + "\x03\x09\x08" + "\x01\x02\x13\x04"},
		{pad("\x01\x02\x03\x04\x01\x02\x13\x04\x01\x02\x03\x04"), "\x01" + "\x3f" + zeros + "\x01\x02\x03\x04" + "\x01\x02\x13\x04" + "\x01\x02\x03\x04"},
		{pad("\x00\x00\x00\x00\x05\x00\x01\x00\x00\x00\x00\x00\x05\x00\x01\x00"), "\x01" + "\x4c" + zeros + "\x05\x00\x01\x00" + "\x01"},
	} {
		if s, e := Compress(c.page); s != c.form || e != api.OK {
			t.Errorf("%d: %x", i, s)
		}
		if p, e := Decompress(c.form); p != c.page || e != api.OK {
			t.Errorf("%d: %d", i, e)
		}
	}
	for _, n := range []int{0, 255, 257} {
		if s, e := Compress(strings.Repeat("a", n)); s != "" || e != api.ErrInvalid {
			t.Error(n, e)
		}
	}
}

// noise returns n words that are all different, in different slots.
func noise(n int) string {
	var b strings.Builder
	for i := range n {
		b.WriteString(string([]byte{byte(i), 1, byte(i), byte(i + 1)}))
	}
	return b.String()
}

// P33.1 and P33.2: pages that do not get smaller.
func TestPlain(t *testing.T) {
	page := noise(64)
	s, _ := Compress(page)
	if s != "\x00"+page {
		t.Error("plain form")
	}
	if p, e := Decompress(s); p != page || e != api.OK {
		t.Error(e)
	}
	s, _ = Compress(pad(noise(59)))
	if len(s) != 253 || s[0] != 1 {
		t.Error(len(s))
	}
	s, _ = Compress(pad(noise(60)))
	if len(s) != 257 {
		t.Error(len(s))
	}
}

// P33.2: what is no compressed form.
func TestMalformed(t *testing.T) {
	good, _ := Compress(pad("\x01\x02\x03\x04\x01\x02\x03\x04\x09\x08\x03\x04"))
	zeros := strings.Repeat("\x00", 15)
	for i, s := range []string{"", "\x00", "\x02" + good[1:], good[:16], good[:len(good)-1], good + "\x00", "\x00" + pad(""), "\x00" + pad("") + "a", "\x00" + noise(63), "\x01\x01" + zeros + "\x10", "\x01\x01" + zeros + "\x00", "\x01\x02" + zeros + "\x01\x05\x00", "\x01\x02" + zeros + "\x00\x00\x00", "\x01\x03" + zeros + "\x00\x00\x00\x00", "\x01\x03" + zeros + "\x05\x00\x00\x00"} {
		if p, e := Decompress(s); p != "" || e != api.ErrMalformed {
			t.Error(i, e)
		}
	}
}
