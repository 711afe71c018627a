package syntax

import (
	"platformfw/api"
	"platformfw/grammar"
	"platformfw/nspath"
	"platformfw/tree"
)

// Valid reports whether a program is valid.
func Valid(p []api.Node) bool {
	if len(p) > api.MaxTreeNodes {
		return false
	}
	v := validator{p}
	for at := 0; at < len(p); {
		if !grammar.Permitted('D', p[at].Op) {
			return false
		}
		end, ok := v.node(at, 1)
		if !ok {
			return false
		}
		at = end
	}
	return true
}

// validator tests the nodes of a program. Its methods return the index after the tested nodes.
type validator struct {
	nodes []api.Node
}

// node tests a node with the subtrees below it.
func (v validator) node(at, depth int) (int, bool) {
	n := v.nodes[at]
	if depth > api.MaxDepth || !plain(n) {
		return 0, false
	}
	kinds, ok := grammar.KidKinds(n)
	if !ok {
		return 0, false
	}
	at++
	for i := range len(kinds) {
		if at, ok = v.child(at, kinds[i], depth+1); !ok {
			return 0, false
		}
	}
	return at, true
}

// child tests a child of a required kind.
func (v validator) child(at int, kind byte, depth int) (int, bool) {
	if at >= len(v.nodes) {
		return 0, false
	}
	n := v.nodes[at]
	if grammar.IsBlock(kind) {
		return v.block(at, kind, depth)
	}
	if !grammar.Permitted(kind, n.Op) || kind == 's' && !isSegment(n.Str) {
		return 0, false
	}
	return v.node(at, depth)
}

func (v validator) block(at int, kind byte, depth int) (int, bool) {
	n := v.nodes[at]
	if n.Op != api.OpBlock || n.Int != 0 || n.Str != "" || n.Kids < 0 || depth > api.MaxDepth {
		return 0, false
	}
	at++
	for range n.Kids {
		if at >= len(v.nodes) || !grammar.Permitted(kind, v.nodes[at].Op) {
			return 0, false
		}
		end, ok := v.node(at, depth+1)
		if !ok {
			return 0, false
		}
		at = end
	}
	return at, true
}

// plain tests the number and the text of a node.
func plain(n api.Node) bool {
	switch n.Op {
	case api.OpInt:
		return n.Str == ""
	case api.OpLocal:
		return n.Int < api.MaxLocals && n.Str == ""
	case api.OpArg:
		return n.Int < api.MaxArgs && n.Str == ""
	case api.OpString:
		return n.Int == 0 && len(n.Str) <= api.MaxString
	case api.OpName, api.OpCall:
		_, ok := nspath.Parse(n.Str)
		return n.Int == 0 && ok
	}
	return n.Int == 0 && n.Str == ""
}

func isSegment(s string) bool {
	q, ok := nspath.Parse(s)
	return ok && !q.Root && q.Up == 0 && len(q.Segs) == 1
}

// Children returns the indices of the children of a node of a valid program.
func Children(p []api.Node, i int) []int {
	if i < 0 || i >= len(p) || !Valid(p) {
		return nil
	}
	return tree.Kids(p, tree.Ends(p), i)
}

// End returns the index after the subtree of a node of a valid program.
func End(p []api.Node, i int) int {
	if i < 0 || i >= len(p) || !Valid(p) {
		return 0
	}
	return tree.Ends(p)[i]
}
