package nspath

import (
	"slices"
	"strings"
	"testing"

	"platformfw/api"
)

func path(t *testing.T, s string) api.Path {
	t.Helper()
	p, ok := Parse(s)
	if !ok {
		t.Fatal("no path", s)
	}
	return p
}

func deep(n int) string { return "\\" + strings.TrimSuffix(strings.Repeat("A.", n), ".") }

// P2.1: validity, format and parsing.
func TestValidFormatParse(t *testing.T) {
	for _, s := range []string{"\\", "^", "A", "\\_SB.EC0", "^^A_1.B", "ABCD", strings.Repeat("^", 32), deep(32), strings.Repeat("^", 31) + "A"} {
		p, ok := Parse(s)
		if !ok || !Valid(p) || Format(p) != s {
			t.Errorf("%s: %v %v", s, p, ok)
		}
	}
	for _, s := range []string{"", "A.", ".A", "a", "1A", "ABCDE", "\\^A", "^\\A", "A..B", "A B", deep(33), strings.Repeat("^", 33), strings.Repeat("^", 32) + "A", "\\\\"} {
		if p, ok := Parse(s); ok || p.Root || p.Up != 0 || p.Segs != nil {
			t.Errorf("%q: %v %v", s, p, ok)
		}
	}
	for i, p := range []api.Path{{}, {Up: -1, Segs: []string{"A"}}, {Root: true, Up: 1}, {Segs: []string{""}}, {Up: 1 << 62, Segs: []string{"A", "B"}}, {Segs: []string{"A.B"}}} {
		if Valid(p) || Format(p) != "" {
			t.Error(i)
		}
	}
}

// P2.2: joining and parents.
func TestJoinParent(t *testing.T) {
	for _, c := range []struct{ scope, p, want string }{
		{"\\_SB.EC0", "^PCI0", "\\_SB.PCI0"}, {"\\A.B", "^^", "\\"}, {"\\A.B", "^^^", ""}, {"\\A", "\\X.Y", "\\X.Y"},
		{"\\", "A.B", "\\A.B"}, {"A", "B", ""}, {"^", "\\B", ""}, {deep(32), "A", ""}, {deep(32), "^B", deep(31) + ".B"}, {deep(31), "B", deep(31) + ".B"},
	} {
		q, ok := Join(path(t, c.scope), path(t, c.p))
		if Format(q) != c.want || ok != (c.want != "") {
			t.Errorf("%s + %s: %v", c.scope, c.p, q)
		}
	}
	if _, ok := Join(path(t, "\\A"), api.Path{}); ok {
		t.Error("invalid path joined")
	}
	for _, c := range []struct{ p, want string }{{"\\A.B", "\\A"}, {"\\A", "\\"}, {"\\", ""}, {"A.B", ""}, {"^A", ""}} {
		q, ok := Parent(path(t, c.p))
		if Format(q) != c.want || ok != (c.want != "") {
			t.Errorf("parent of %s: %v", c.p, q)
		}
	}
	scope := path(t, "\\A.B")
	q, _ := Join(scope, path(t, "C"))
	q.Segs[0] = "X"
	if scope.Segs[0] != "A" {
		t.Error("memory shared")
	}
}

// P2.3: the places where a name is searched.
func TestCandidates(t *testing.T) {
	for _, c := range []struct{ scope, p, want string }{
		{"\\_SB.EC0", "FAN", "\\_SB.EC0.FAN \\_SB.FAN \\FAN"}, {"\\", "A", "\\A"}, {"\\A.B", "C.D", "\\A.B.C.D"},
		{"\\A.B", "^C", "\\A.C"}, {"\\A", "^^C", ""}, {"\\A", "\\C", "\\C"}, {"A", "B", ""}, {"\\A.B", "^", "\\A"},
	} {
		var l []string
		for _, q := range Candidates(path(t, c.scope), path(t, c.p)) {
			l = append(l, Format(q))
		}
		if strings.Join(l, " ") != c.want {
			t.Errorf("%s in %s: %v", c.p, c.scope, l)
		}
	}
	if l := Candidates(path(t, deep(32)), path(t, "B")); len(l) != 32 || len(l[0].Segs) != 32 {
		t.Error("deep scope", len(l))
	}
	if Candidates(path(t, "\\A"), api.Path{Segs: []string{"a"}}) != nil {
		t.Error("invalid name")
	}
}

// P2.4: the order of paths, also of invalid ones.
func TestCompare(t *testing.T) {
	l := []api.Path{{}, {Segs: []string{"A"}}, {Segs: []string{"A", "A"}}, {Segs: []string{"AB"}}, {Segs: []string{"B"}}, {Segs: []string{"a b"}}, {Up: 1}, {Up: 2, Segs: []string{"A"}}, {Root: true, Up: -1}, {Root: true}, {Root: true, Segs: []string{"Z"}}}
	for i, a := range l {
		for j, b := range l {
			want := 0
			if i < j {
				want = -1
			} else if i > j {
				want = 1
			}
			if Compare(a, b) != want {
				t.Error(i, j)
			}
		}
	}
	if !slices.IsSortedFunc(l, Compare) {
		t.Error("order")
	}
}
