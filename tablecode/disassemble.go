package tablecode

import (
	"platformfw/api"
	"platformfw/bytecode"
	"platformfw/grammar"
	"platformfw/nspath"
	"platformfw/syntax"
)

// Disassemble returns the program whose code is s. Together with an error it returns the offset of the faulty item.
func Disassemble(s string) ([]api.Node, int, api.Errno) {
	if len(s) > api.MaxTable {
		return nil, 0, api.ErrOverflow
	}
	d := decoder{code: s, end: len(s)}
	for d.at < d.end {
		if !d.element('D') {
			return nil, d.at, d.fault
		}
	}
	if !syntax.Valid(d.nodes) {
		return nil, 0, api.ErrOverflow
	}
	return d.nodes, 0, api.OK
}

// decoder holds the code, the position in it, the end of the innermost block, and how many blocks are open. Its methods return false at an item that cannot be decoded, at which the position then is.
type decoder struct {
	code   string
	at     int
	end    int
	blocks int
	nodes  []api.Node
	fault  api.Errno
}

// refuse notes an error at the current item. Inside a block, an item that ends too early is malformed.
func (d *decoder) refuse(e api.Errno) bool {
	if e == api.ErrTruncated && d.blocks > 0 {
		e = api.ErrMalformed
	}
	d.fault = e
	return false
}

func (d *decoder) rest() string { return d.code[d.at:d.end] }

func (d *decoder) add(n api.Node) int {
	d.nodes = append(d.nodes, n)
	return len(d.nodes) - 1
}

// children decodes the children of a node, of the given kinds.
func (d *decoder) children(node int, kinds string) bool {
	for i := range len(kinds) {
		kind := kinds[i]
		if grammar.IsBlock(kind) {
			if !d.block(kind) {
				return false
			}
		} else if !d.element(kind) {
			return false
		}
		d.nodes[node].Kids++
	}
	return true
}

// element decodes an operand of a kind, or an element of a block of a kind.
func (d *decoder) element(kind byte) bool {
	if d.at == d.end {
		return d.refuse(api.ErrTruncated)
	}
	c := d.code[d.at]
	switch {
	case grammar.Permitted(kind, api.OpName) && startsPath(c):
		return d.path(api.OpName, kind == 's')
	case grammar.Permitted(kind, api.OpInt) && startsInt(c):
		return d.integer()
	case grammar.Permitted(kind, api.OpString) && c == 0x0D:
		return d.text()
	}
	return d.operation(kind)
}

func startsPath(c byte) bool {
	_, _, e := bytecode.Path(string([]byte{c}))
	return e == api.ErrTruncated
}

func startsInt(c byte) bool {
	_, _, e := bytecode.Int(string([]byte{c}))
	return e != api.ErrMalformed
}

func (d *decoder) path(op int, short bool) bool {
	p, n, e := bytecode.Path(d.rest())
	if e != api.OK {
		return d.refuse(e)
	}
	if short && (p.Root || p.Up > 0 || len(p.Segs) != 1) {
		return d.refuse(api.ErrMalformed)
	}
	d.add(api.Node{Op: op, Str: nspath.Format(p)})
	d.at += n
	return true
}

func (d *decoder) integer() bool {
	v, n, e := bytecode.Int(d.rest())
	if e != api.OK {
		return d.refuse(e)
	}
	d.add(api.Node{Op: api.OpInt, Int: v})
	d.at += n
	return true
}

func (d *decoder) text() bool {
	v, n, e := bytecode.String(d.rest())
	if e != api.OK {
		return d.refuse(e)
	}
	d.add(api.Node{Op: api.OpString, Str: v})
	d.at += n
	return true
}

// operation decodes an opcode byte and what belongs to it.
func (d *decoder) operation(kind byte) bool {
	op, number := operator(d.code[d.at])
	if op == 0 || !grammar.Permitted(kind, op) {
		return d.refuse(api.ErrMalformed)
	}
	d.at++
	node := len(d.nodes)
	if op == api.OpCall {
		return d.path(op, false) && d.counted(node, api.MaxArgs, 'e')
	}
	d.add(api.Node{Op: op, Int: number})
	switch op {
	case api.OpLocal, api.OpArg:
		return true
	case api.OpReturn:
		return d.counted(node, 1, 'e')
	}
	_, kinds := grammar.Form(op)
	return d.children(node, kinds) && (op != api.OpIf || d.counted(node, 1, 'S'))
}

// operator returns the operator of an opcode byte, or 0, and the number of a local variable or an argument.
func operator(c byte) (int, uint64) {
	local, _ := bytecode.Code(api.OpLocal)
	arg, _ := bytecode.Code(api.OpArg)
	switch {
	case c >= local && c < local+api.MaxLocals:
		return api.OpLocal, uint64(c - local)
	case c >= arg && c < arg+api.MaxArgs:
		return api.OpArg, uint64(c - arg)
	}
	op, _ := bytecode.Op(c)
	return op, 0
}

// counted decodes a count byte and as many children of a kind.
func (d *decoder) counted(node, limit int, kind byte) bool {
	if d.at == d.end {
		return d.refuse(api.ErrTruncated)
	}
	count := int(d.code[d.at])
	if count > limit {
		return d.refuse(api.ErrMalformed)
	}
	d.at++
	for range count {
		if !d.children(node, string([]byte{kind})) {
			return false
		}
	}
	return true
}

// block decodes a package length and the elements of its block.
func (d *decoder) block(kind byte) bool {
	n, length, e := bytecode.Length(d.rest())
	if e != api.OK {
		return d.refuse(e)
	}
	if n > d.end-d.at-length {
		return d.refuse(api.ErrTruncated)
	}
	node := d.add(api.Node{Op: api.OpBlock})
	d.at += length
	outer := d.end
	d.end = d.at + n
	d.blocks++
	for d.at < d.end {
		if !d.element(kind) {
			return false
		}
		d.nodes[node].Kids++
	}
	d.end = outer
	d.blocks--
	return true
}
