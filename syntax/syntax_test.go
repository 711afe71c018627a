package syntax

import (
	"reflect"
	"strings"
	"testing"

	"platformfw/api"
	"platformfw/grammar"
	"platformfw/token"
)

const sample = `Scope (\_SB) {
  Device (EC0) {
    Name (_ADR, 0x10)
    Name (P, Package (3) {1, "a\x00", A.B, Buffer (2) {}, Package (0) {}})
    PowerResource (PWR0, 1, 2) {}
    OperationRegion (R, 0, 0, 8)
    Field (^R, 1, 0) {
      Unit (F0, 8)
      Skip (3)
    }
    IndexField (F0, F0, 1, 0) {}
    Mutex (M, 0)
    Event (E)
  }
}
Method (MAIN, 2, 1, 0) {
  Store (Add (Local0, FOO (1, Arg6)), Index (\P, 0))
  If (LEqual (1, 2)) {
    Return
  } Else {
    While (CondRefOf (^X)) {
      Break
      Continue
    }
  }
  If (1) {}
  Return (Mid (DerefOf (RefOf (X)), ObjectType (Local7), 3))
  Acquire (M, 0x10)
  Wait (E, Acquire (M, 0))
  BAR ()
  Release (M)
  Signal (E)
  Reset (E)
  Sleep (Not (0))
  Notify (EC0, ToHexString (Buffer (1) {1, 2}))
}
`

// P3.1 and P3.3: parsing and formatting are inverse on a program with every construct.
func TestRoundTrip(t *testing.T) {
	p, at, e := Parse(sample)
	if e != api.OK || at != 0 || !Valid(p) {
		t.Fatal(at, e)
	}
	if s := Format(p); s != sample {
		t.Error(s)
	}
	oneLine := strings.Join(strings.Fields(sample), " ")
	q, _, e := Parse(oneLine)
	if e != api.OK || !reflect.DeepEqual(p, q) {
		t.Error("white space matters", e)
	}
	for op := api.OpAdd; op <= api.OpMid; op++ {
		word, kinds := grammar.Form(op)
		args := strings.Repeat(", X", len(kinds))[2:]
		src := "Method (M, 0, 0, 0) {\n  Return (" + word + " (" + args + "))\n}\n"
		p, at, e := Parse(src)
		if e != api.OK || p[7].Op != op || p[7].Kids != len(kinds) || Format(p) != src {
			t.Error(src, at, e)
		}
	}
}

// P3.1: the nodes of a small program.
func TestNodes(t *testing.T) {
	p, at, e := Parse("Name (_ADR, 16)")
	want := []api.Node{{Op: api.OpNameDecl, Kids: 2}, {Op: api.OpName, Str: "_ADR"}, {Op: api.OpInt, Int: 16}}
	if e != api.OK || at != 0 || !reflect.DeepEqual(p, want) {
		t.Error(p, at, e)
	}
	if p, _, e := Parse(" // nothing"); len(p) != 0 || e != api.OK || !Valid(nil) || Format(nil) != "" {
		t.Error("empty program", e)
	}
}

// P3.1: the first token without a continuation; a bar marks it.
func TestSyntaxErrors(t *testing.T) {
	for _, s := range []string{
		"Device (EC0) {|", "Scope (X) {|Break}", "|FOO ()", "|1", "Name |X", "Name (|A.B, 1)", "Name (|^A, 1)", "Name (A, |B)", "Name (A, 1|, 2)", "Name (A|)",
		"|name (A, 1)", "|Unit (A, 1)", "Scope (A) {} |}", "|Else {}", "Method (M, 0, 0, 0) {FOO|}", "Method (M, 0, 0, 0) {Store (1, |2)}",
		"Method (M, 0, 0, 0) {Store (1, FOO|(1))}", "Method (M, 0, 0, 0) {Store (1, |Add (1, 2))}", "Method (M, 0, 0, 0) {Return (1|, 2)}", "Method (M, 0, 0, 0) {Return (|)}",
		"Method (M, 0, 0, 0) {If (1) {} Else {} |Else {}}", "Method (M, 0, 0, 0) {Return (|Local8)}", "Method (M, 0, 0, 0) {Return (|Arg7)}", "Method (M, 0, 0, 0) {Return (|Store (1, A))}",
		"Method (M, 0, 0, 0) {X (1, 2, 3, 4, 5, 6, 7|, 8)}", "Method (M, 0, 0, 0) {X (1,|)}", "Method (M, 0, 0, 0) {X (|, 1)}", "Method (M, 0, 0, 0) {|\"x\"}", "Method (M, 0, 0, 0) {|Local0}",
		"Name (A, Buffer (1) {|\"x\"})", "Name (A, Buffer (1) {1,|})", "Name (A, Buffer (1) {1 |2})", "Name (A, Package (1) {|Add (1, 2)})", "Name (A, Package (1) {B|(1)})", "Name (A, Package (1) {|Local0})",
		"Field (A, 1, 0) {|Name (A, 1)}", "Scope (|" + strings.Repeat("^", 33) + ") {}", "Method (M, 0, 0, 0) {Break |(1)}", "Method (M, 0, 0, 0) {Wait (E|)}", "Device (D)|", "Method (M, 0, 0, |A) {}",
	} {
		at := strings.IndexByte(s, '|')
		p, got, e := Parse(s[:at] + s[at+1:])
		if p != nil || got != at || e != api.ErrSyntax {
			t.Errorf("%s: %d %d, want %d", s, got, e, at)
		}
	}
	if _, at, e := Parse("Name (A, ABCDE)"); at != 9 || e != api.ErrSyntax {
		t.Error("faulty item", at, e)
	}
	if _, at, e := Parse("} #"); at != 2 || e != api.ErrSyntax {
		t.Error("the error of the scanner comes first", at, e)
	}
	if _, at, e := Parse(strings.Repeat("#", api.MaxSource+1)); at != 0 || e != api.ErrOverflow {
		t.Error("long source", at, e)
	}
}

func nest(n int) string {
	return "Method (M, 0, 0, 0) {Return (" + strings.Repeat("Not (", n) + "1" + strings.Repeat(")", n) + ")}"
}

// P3.1 and P3.2: the limits of size and depth.
func TestLimits(t *testing.T) {
	p, _, e := Parse(nest(28))
	if e != api.OK || !Valid(p) {
		t.Error("depth 32", e)
	}
	for _, s := range []string{nest(29), nest(5000), strings.Repeat("Event (E)", 1025)} {
		if p, at, e := Parse(s); p != nil || at != 0 || e != api.ErrOverflow {
			t.Error("too large", at, e)
		}
	}
	if p, _, e := Parse(strings.Repeat("Event (E)", 1024)); len(p) != api.MaxTreeNodes || e != api.OK {
		t.Error("largest", e)
	}
	if _, at, e := Parse(nest(5000) + "}"); at != len(nest(5000)) || e != api.ErrSyntax {
		t.Error("syntax comes before size", at, e)
	}
	deep := strings.Repeat("Scope (A) {", 15) + "Event (E)" + strings.Repeat("}", 15)
	if _, _, e := Parse(deep); e != api.OK {
		t.Error("blocks of depth 32", e)
	}
	if _, _, e := Parse("Scope (A) {" + deep + "}"); e != api.ErrOverflow {
		t.Error("blocks of depth 34", e)
	}
	if _, _, e := Parse(strings.Repeat("Scope (A) {", 16) + strings.Repeat("}", 16)); e != api.OK {
		t.Error("empty block of depth 32", e)
	}
}

// P3.2: nodes that are not well-formed.
func TestInvalid(t *testing.T) {
	base, _, _ := Parse("Method (M, 1, 0, 0) {Store (Arg0, Local0) FOO (1) Return}")
	change := func(i int, f func(n *api.Node)) {
		q := append([]api.Node(nil), base...)
		f(&q[i])
		if Valid(q) || Format(q) != "" || Children(q, 0) != nil || End(q, 0) != 0 {
			t.Error(i, q[i])
		}
	}
	change(0, func(n *api.Node) { n.Kids = 4 })
	change(0, func(n *api.Node) { n.Kids = 6 })
	change(0, func(n *api.Node) { n.Kids = -1 })
	change(0, func(n *api.Node) { n.Int = 1 })
	change(0, func(n *api.Node) { n.Op = 99 })
	change(0, func(n *api.Node) { n.Op = api.OpStore; n.Kids = 2 })
	change(1, func(n *api.Node) { n.Str = "^M" })
	change(1, func(n *api.Node) { n.Str = "M.M" })
	change(1, func(n *api.Node) { n.Str = "" })
	change(2, func(n *api.Node) { n.Str = "x" })
	change(5, func(n *api.Node) { n.Kids = 4 })
	change(5, func(n *api.Node) { n.Kids = 1 << 40 })
	change(5, func(n *api.Node) { n.Str = "x" })
	change(7, func(n *api.Node) { n.Int = api.MaxArgs })
	change(8, func(n *api.Node) { n.Int = api.MaxLocals })
	change(8, func(n *api.Node) { n.Op = api.OpInt; n.Int = 1 })
	change(9, func(n *api.Node) { n.Str = "a" })
	change(9, func(n *api.Node) { n.Kids = 8 })
	change(9, func(n *api.Node) { n.Op = api.OpName; n.Kids = 0 })
	change(11, func(n *api.Node) { n.Kids = 1 })
	change(11, func(n *api.Node) { n.Kids = 2 })
	long := []api.Node{{Op: api.OpNameDecl, Kids: 2}, {Op: api.OpName, Str: "A"}, {Op: api.OpString, Str: strings.Repeat("x", 255)}}
	if !Valid(long) || !Valid(base) {
		t.Error("valid program refused")
	}
	long[2].Str += "x"
	if Valid(long) {
		t.Error("long string")
	}
}

// P3.2: children and ends.
func TestChildrenEnd(t *testing.T) {
	p, _, _ := Parse("Scope (A) {Name (B, 1) Event (C)} Mutex (D, 1)")
	for _, c := range []struct {
		i, end int
		kids   []int
	}{{0, 8, []int{1, 2}}, {1, 2, nil}, {2, 8, []int{3, 6}}, {3, 6, []int{4, 5}}, {8, 11, []int{9, 10}}, {11, 0, nil}, {-1, 0, nil}} {
		kids := Children(p, c.i)
		if End(p, c.i) != c.end || len(kids) != len(c.kids) || len(kids) > 0 && !reflect.DeepEqual(kids, c.kids) {
			t.Error(c, kids, End(p, c.i))
		}
	}
}

// P3.3: formatting keeps the sequence of tokens.
func TestFormatTokens(t *testing.T) {
	src := "Scope(X){Method(M,0,0,0){If(1){Break}Else{}FOO(\"\\x41\")}Field(R,1,0){}}"
	p, _, e := Parse(src)
	a, _, _ := token.Scan(src)
	b, _, _ := token.Scan(Format(p))
	if e != api.OK || token.Format(a) != token.Format(b) {
		t.Error(Format(p), e)
	}
	want := "Scope (X) {\n  Method (M, 0, 0, 0) {\n    If (1) {\n      Break\n    } Else {}\n    FOO (\"A\")\n  }\n  Field (R, 1, 0) {}\n}\n"
	if Format(p) != want {
		t.Error(Format(p))
	}
}
