package syntax

import (
	"platformfw/api"
	"platformfw/grammar"
	"platformfw/nspath"
	"platformfw/token"
)

// Parse returns the program that a source text denotes. Together with an error it returns its offset.
func Parse(src string) ([]api.Node, int, api.Errno) {
	tokens, at, e := token.Scan(src)
	if e != api.OK {
		return nil, at, e
	}
	r := reader{tokens: tokens}
	for len(r.tokens) > 0 {
		if !r.element('D') {
			return nil, r.offset(src), api.ErrSyntax
		}
	}
	if !Valid(r.nodes) {
		return nil, 0, api.ErrOverflow
	}
	return r.nodes, 0, api.OK
}

// reader holds the tokens that are left and the nodes read so far. Its methods return false, and leave the faulty token first, where no continuation is a program.
type reader struct {
	tokens []api.Token
	nodes  []api.Node
}

func (r *reader) offset(src string) int {
	if len(r.tokens) == 0 {
		return len(src)
	}
	return r.tokens[0].Pos
}

func (r *reader) next() api.Token {
	if len(r.tokens) == 0 {
		return api.Token{}
	}
	return r.tokens[0]
}

func (r *reader) skip() { r.tokens = r.tokens[1:] }

func (r *reader) take(kind int) bool {
	if r.next().Kind != kind {
		return false
	}
	r.skip()
	return true
}

func (r *reader) add(n api.Node) int {
	r.nodes = append(r.nodes, n)
	return len(r.nodes) - 1
}

// element reads an element of a block of a kind.
func (r *reader) element(kind byte) bool {
	t := r.next()
	switch t.Kind {
	case api.TokenKeyword:
		return r.keyword(kind)
	case api.TokenName:
		if kind == 'S' {
			return r.call()
		}
		return kind == 'P' && r.name(false)
	}
	return r.literal(kind)
}

// operand reads a child that is not a block.
func (r *reader) operand(kind byte) bool {
	t := r.next()
	switch t.Kind {
	case api.TokenKeyword:
		return r.keyword(kind)
	case api.TokenName:
		if kind == 'e' && len(r.tokens) > 1 && r.tokens[1].Kind == api.TokenOpen {
			return r.call()
		}
		return grammar.Permitted(kind, api.OpName) && r.name(kind == 's')
	}
	return r.literal(kind)
}

// literal reads an integer or a string.
func (r *reader) literal(kind byte) bool {
	t := r.next()
	switch {
	case t.Kind == api.TokenInteger && grammar.Permitted(kind, api.OpInt):
		r.add(api.Node{Op: api.OpInt, Int: t.Int})
	case t.Kind == api.TokenString && grammar.Permitted(kind, api.OpString):
		r.add(api.Node{Op: api.OpString, Str: t.Str})
	default:
		return false
	}
	r.skip()
	return true
}

// name reads a name, which must be a single segment if short is true.
func (r *reader) name(short bool) bool {
	s := r.next().Str
	if _, ok := nspath.Parse(s); !ok || short && !isSegment(s) {
		return false
	}
	r.add(api.Node{Op: api.OpName, Str: s})
	r.skip()
	return true
}

func (r *reader) call() bool {
	s := r.next().Str
	if _, ok := nspath.Parse(s); !ok {
		return false
	}
	at := r.add(api.Node{Op: api.OpCall, Str: s})
	r.skip()
	if !r.take(api.TokenOpen) {
		return false
	}
	for !r.take(api.TokenClose) {
		n := r.nodes[at].Kids
		if n > 0 && (n == api.MaxArgs || !r.take(api.TokenComma)) {
			return false
		}
		if !r.operand('e') {
			return false
		}
		r.nodes[at].Kids++
	}
	return true
}

// keyword reads what starts with a keyword where a kind of child, or an element of a kind of block, is required.
func (r *reader) keyword(kind byte) bool {
	word := r.next().Str
	if n, ok := variable(word); ok {
		if !grammar.Permitted(kind, n.Op) {
			return false
		}
		r.add(n)
		r.skip()
		return true
	}
	op := grammar.Operator(word)
	if op == 0 || !grammar.Permitted(kind, op) {
		return false
	}
	at := r.add(api.Node{Op: op})
	r.skip()
	_, kinds := grammar.Form(op)
	if op == api.OpReturn && r.next().Kind == api.TokenOpen {
		kinds = "e"
	}
	if !r.children(kinds) {
		return false
	}
	r.nodes[at].Kids = len(kinds)
	if t := r.next(); op == api.OpIf && t.Kind == api.TokenKeyword && t.Str == "Else" {
		r.skip()
		r.nodes[at].Kids++
		return r.block('S')
	}
	return true
}

// children reads the operands in parentheses, if there are some, and a block.
func (r *reader) children(kinds string) bool {
	for i := range len(kinds) {
		if grammar.IsBlock(kinds[i]) {
			return r.block(kinds[i])
		}
		open := api.TokenComma
		if i == 0 {
			open = api.TokenOpen
		}
		if !r.take(open) || !r.operand(kinds[i]) {
			return false
		}
		last := i+1 == len(kinds) || grammar.IsBlock(kinds[i+1])
		if last && !r.take(api.TokenClose) {
			return false
		}
	}
	return true
}

func (r *reader) block(kind byte) bool {
	if !r.take(api.TokenBraceOpen) {
		return false
	}
	at := r.add(api.Node{Op: api.OpBlock})
	for !r.take(api.TokenBraceClose) {
		if grammar.IsList(kind) && r.nodes[at].Kids > 0 && !r.take(api.TokenComma) {
			return false
		}
		if !r.element(kind) {
			return false
		}
		r.nodes[at].Kids++
	}
	return true
}

// variable returns the node of a local variable or an argument.
func variable(word string) (api.Node, bool) {
	if len(word) == 6 && word[:5] == "Local" && word[5] >= '0' && word[5] < '0'+api.MaxLocals {
		return api.Node{Op: api.OpLocal, Int: uint64(word[5] - '0')}, true
	}
	if len(word) == 4 && word[:3] == "Arg" && word[3] >= '0' && word[3] < '0'+api.MaxArgs {
		return api.Node{Op: api.OpArg, Int: uint64(word[3] - '0')}, true
	}
	return api.Node{}, false
}
