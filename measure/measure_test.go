package measure

import (
	"crypto/hmac"
	"crypto/sha256"
	"slices"
	"strings"
	"testing"

	"platformfw/api"
)

// P42.1: digests and authentication codes.
func TestSumMAC(t *testing.T) {
	d := Sum("abc")
	if string(d[:4]) != "\xba\x78\x16\xbf" {
		t.Errorf("%x", d)
	}
	m := MAC("key", "The quick brown fox jumps over the lazy dog")
	if string(m[:4]) != "\xf7\xbc\x83\xf4" {
		t.Errorf("%x", m)
	}
	for n := range 300 {
		s := strings.Repeat("x", n) + "\xff\x00"
		if Sum(s) != sha256.Sum256([]byte(s)) {
			t.Fatal(n)
		}
		h := hmac.New(sha256.New, []byte(s))
		h.Write([]byte("text"))
		if m := MAC(s, "text"); string(m[:]) != string(h.Sum(nil)) {
			t.Fatal(n)
		}
	}
	if Sum("") != sha256.Sum256(nil) {
		t.Error("empty")
	}
}

// P42.2 and P42.3: the log and its replay.
func TestLog(t *testing.T) {
	l := New()
	if r, e := l.Register(7); r != (api.Digest{}) || e != api.OK || len(l.Events()) != 0 {
		t.Error("initial")
	}
	text := strings.Repeat("t", api.MaxText)
	if l.Measure(7, text, "data") != api.OK || l.Measure(0, "", "") != api.OK || l.Measure(7, "x", "more") != api.OK {
		t.Error("measure")
	}
	a, b := Sum("data"), Sum("more")
	first := Sum(strings.Repeat("\x00", 32) + string(a[:]))
	want := Sum(string(first[:]) + string(b[:]))
	if r, _ := l.Register(7); r != want {
		t.Error("register")
	}
	if ev := l.Events(); !slices.Equal(ev, []api.LogEvent{{Register: 7, Digest: a, Text: text}, {Register: 0, Digest: Sum("")}, {Register: 7, Digest: b, Text: "x"}}) {
		t.Error(ev)
	}
	for _, r := range []int{-1, 8} {
		_, e := l.Register(r)
		_, e2 := Replay([]api.LogEvent{{Register: r}})
		if l.Measure(r, "", "") != api.ErrInvalid || e != api.ErrInvalid || e2 != api.ErrInvalid {
			t.Error(r)
		}
	}
	if l.Measure(0, text+"t", "") != api.ErrInvalid {
		t.Error("long text")
	}
	registers, e := Replay(l.Events())
	for i, r := range registers {
		if v, _ := l.Register(i); v != r || e != api.OK {
			t.Error(i)
		}
	}
	for range api.MaxLogEvents - 3 {
		l.Measure(1, "", "")
	}
	if l.Measure(1, "", "") != api.ErrFull || l.Measure(9, "", "") != api.ErrInvalid || len(l.Events()) != api.MaxLogEvents {
		t.Error("full log")
	}
}

// P42.4: quotes.
func TestQuote(t *testing.T) {
	l := New()
	l.Measure(3, "a", "b")
	registers, _ := Replay(l.Events())
	q, e := Quote("key", registers, "nonce")
	var all []byte
	for _, r := range registers {
		all = append(all, r[:]...)
	}
	if e != api.OK || q != MAC("key", string(all)+"nonce") || !VerifyQuote("key", l.Events(), "nonce", q) {
		t.Error(e)
	}
	if VerifyQuote("kez", l.Events(), "nonce", q) || VerifyQuote("key", nil, "nonce", q) || VerifyQuote("key", l.Events(), "nonc", q) || VerifyQuote("key", []api.LogEvent{{Register: 9}}, "nonce", q) {
		t.Error("accepted")
	}
	for _, n := range []int{0, 7, 9} {
		if q, e := Quote("key", make([]api.Digest, n), ""); q != (api.Digest{}) || e != api.ErrInvalid {
			t.Error(n, e)
		}
	}
}
