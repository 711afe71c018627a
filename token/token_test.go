package token

import (
	"strings"
	"testing"

	"platformfw/api"
)

func kinds(l []api.Token) string {
	var b strings.Builder
	for _, t := range l {
		b.WriteByte(byte('0' + t.Kind))
	}
	return b.String()
}

// P1.1: items are split, with kinds, values and offsets.
func TestScanItems(t *testing.T) {
	for _, c := range []struct {
		src, kinds, first string
		n                 uint64
		pos               int
	}{
		{"Name (_ADR, 0x10) // x", "251936", "Name", 0, 0},
		{"\t\r\n A.B.C", "1", "A.B.C", 0, 4},
		{"^^", "1", "^^", 0, 0},
		{"\\", "1", "\\", 0, 0},
		{"\\A1 x", "12", "\\A1", 0, 0},
		{"^1", "13", "^", 0, 0},
		{"A^B", "11", "A", 0, 0},
		{"/*/ */0", "3", "", 0, 6},
		{"0xfF", "3", "", 255, 0},
		{"18446744073709551615", "3", "", 1<<64 - 1, 0},
		{`"\x41\"\\b"`, "4", `A"\b`, 0, 0},
		{"a//x", "2", "a", 0, 0},
		{"//\n{}(),", "78569", "", 0, 3},
	} {
		l, at, e := Scan(c.src)
		if e != api.OK || at != 0 || kinds(l) != c.kinds || l[0].Str != c.first || l[0].Int != c.n || l[0].Pos != c.pos {
			t.Errorf("%q: %v %d %d", c.src, l, at, e)
		}
	}
}

// P1.1: the first faulty item is reported with its offset.
func TestScanErrors(t *testing.T) {
	for _, c := range []struct {
		src string
		at  int
	}{
		{"ABCDE", 0}, {"a ^^.B", 4}, {"A.B.", 0}, {" A.b", 1}, {"\\ABCDE", 0}, {"^a", 0}, {"\\^A", -1},
		{"00", 0}, {"0x", 0}, {"0xG", 0}, {"0x00000000000000001", 0}, {"18446744073709551616", 0}, {"1a", 0},
		{"x /* ", 2}, {"/", 0}, {`"`, 0}, {`"\x4"`, 0}, {`"\`, 0}, {"\"\x7f\"", 0}, {"\"\t\"", 0}, {".", 0}, {"é", 0},
		{strings.Repeat("b", 33), 0}, {`"` + strings.Repeat("b", 256) + `"`, 0},
	} {
		l, at, e := Scan(c.src)
		if c.at < 0 {
			if e != api.OK {
				t.Errorf("%q: %d", c.src, e)
			}
			continue
		}
		if l != nil || at != c.at || e != api.ErrSyntax {
			t.Errorf("%q: %v %d %d", c.src, l, at, e)
		}
	}
}

// P1.1: the limits of source, keyword and string.
func TestScanLimits(t *testing.T) {
	if _, at, e := Scan(strings.Repeat("#", api.MaxSource+1)); at != 0 || e != api.ErrOverflow {
		t.Error("long source", at, e)
	}
	if _, _, e := Scan(strings.Repeat("\n", api.MaxSource)); e != api.OK {
		t.Error("longest source", e)
	}
	l, _, e := Scan(strings.Repeat("b", 32) + `"` + strings.Repeat(`\xfF`, 255) + `"`)
	if e != api.OK || len(l) != 2 || len(l[1].Str) != 255 {
		t.Error("longest keyword and string", e)
	}
}

// P1.2: which tokens are valid.
func TestValid(t *testing.T) {
	for _, c := range []struct {
		kind int
		text string
		want bool
	}{
		{1, "A", true}, {1, "\\", true}, {1, "^^A.BB_1", true}, {1, "", false}, {1, "A.", false}, {1, "A B", false},
		{1, "\\^", false}, {1, "ab", false}, {1, "1A", false}, {2, "ab", true}, {2, "aB_9", true}, {2, "AB", false},
		{2, "", false}, {2, "9a", false}, {2, "a b", false}, {2, strings.Repeat("a", 33), false},
		{3, "ignored", true}, {4, "\x00\xff", true}, {4, strings.Repeat("a", 256), false},
		{5, "", true}, {9, "x", true}, {0, "", false}, {10, "", false}, {-1, "", false},
	} {
		if Valid(api.Token{Kind: c.kind, Str: c.text, Int: 7, Pos: -1}) != c.want {
			t.Errorf("%d %q", c.kind, c.text)
		}
	}
}

// P1.2: the text of tokens, and the way back.
func TestFormat(t *testing.T) {
	l := []api.Token{{Kind: 2, Str: "aB"}, {Kind: 5}, {Kind: 3, Int: 9}, {Kind: 9}, {Kind: 3, Int: 10}, {Kind: 3, Int: 0xABCDEF}, {Kind: 4, Str: "q\"\\\n\x80~"}, {Kind: 6}, {Kind: 7}, {Kind: 8}, {Kind: 1, Str: "^A.B"}}
	s := Format(l)
	want := `aB ( 9 , 0xA 0xABCDEF "q\"\\\x0A\x80~" ) { } ^A.B`
	if s != want {
		t.Errorf("got %s, want %s", s, want)
	}
	back, _, e := Scan(s)
	if e != api.OK || len(back) != len(l) {
		t.Fatal(back, e)
	}
	for i := range l {
		back[i].Pos = 0
		if back[i] != l[i] {
			t.Error(i, back[i], l[i])
		}
	}
	if Format(nil) != "" || Format(append(l, api.Token{})) != "" {
		t.Error("invalid or empty list")
	}
}
