package value

import (
	"strconv"
	"strings"

	"platformfw/api"
)

// Unary applies an operator to a value.
func Unary(op int, a api.Value) (api.Value, api.Errno) {
	if !Valid(a) {
		return api.Value{}, api.ErrInvalid
	}
	switch op {
	case api.OpNot, api.OpLNot:
		n, e := Integer(a)
		if e != api.OK {
			return api.Value{}, e
		}
		if op == api.OpLNot {
			return logical(n == 0), api.OK
		}
		return integer(^n), api.OK
	case api.OpSizeOf:
		if a.Kind != api.ValString && a.Kind != api.ValBuffer {
			return api.Value{}, api.ErrType
		}
		return integer(uint64(len(a.Str))), api.OK
	case api.OpToInteger:
		return toInteger(a)
	case api.OpToBuffer:
		return Convert(a, api.ValBuffer)
	case api.OpToHexString:
		return toText(a, func(v uint64) string { return "0x" + hex(v, 1) }, func(c byte) string { return "0x" + hex(uint64(c), 2) })
	case api.OpToDecimalString:
		return toText(a, decimal, func(c byte) string { return decimal(uint64(c)) })
	}
	return api.Value{}, api.ErrInvalid
}

func decimal(v uint64) string { return strconv.FormatUint(v, 10) }

func toInteger(a api.Value) (api.Value, api.Errno) {
	if a.Kind != api.ValString {
		return Convert(a, api.ValInteger)
	}
	s, base := a.Str, uint64(10)
	if strings.HasPrefix(s, "0x") || strings.HasPrefix(s, "0X") {
		s, base = s[2:], 16
	}
	n := uint64(0)
	for i := range len(s) {
		d, ok := digit(s[i], base)
		if !ok {
			break
		}
		if n > (truth-d)/base {
			return api.Value{}, api.ErrOverflow
		}
		n = n*base + d
	}
	return integer(n), api.OK
}

// toText writes an integer, or the bytes of a buffer separated by commas, as numbers.
func toText(a api.Value, number func(uint64) string, element func(byte) string) (api.Value, api.Errno) {
	switch a.Kind {
	case api.ValInteger:
		return textValue(api.ValString, number(a.Int), api.OK)
	case api.ValBuffer:
		s, e := limited(joinBytes(a.Str, ",", element))
		return textValue(api.ValString, s, e)
	case api.ValString:
		return clean(a), api.OK
	}
	return api.Value{}, api.ErrType
}

// Binary applies an operator to two values.
func Binary(op int, a, b api.Value) (api.Value, api.Errno) {
	if !Valid(a) || !Valid(b) {
		return api.Value{}, api.ErrInvalid
	}
	switch op {
	case api.OpLEqual, api.OpLLess, api.OpLGreater, api.OpConcatenate:
		return pairwise(op, a, b)
	}
	if op < api.OpAdd || op > api.OpLOr {
		return api.Value{}, api.ErrInvalid
	}
	x, e := Integer(a)
	if e != api.OK {
		return api.Value{}, e
	}
	y, e := Integer(b)
	if e != api.OK {
		return api.Value{}, e
	}
	return arithmetic(op, x, y)
}

func arithmetic(op int, x, y uint64) (api.Value, api.Errno) {
	switch op {
	case api.OpAdd:
		x += y
	case api.OpSubtract:
		x -= y
	case api.OpMultiply:
		x *= y
	case api.OpDivide, api.OpMod:
		if y == 0 {
			return api.Value{}, api.ErrDivide
		}
		if op == api.OpDivide {
			x /= y
		} else {
			x %= y
		}
	case api.OpAnd:
		x &= y
	case api.OpOr:
		x |= y
	case api.OpXor:
		x ^= y
	case api.OpShiftLeft:
		x <<= y
	case api.OpShiftRight:
		x >>= y
	case api.OpLAnd:
		return logical(x != 0 && y != 0), api.OK
	case api.OpLOr:
		return logical(x != 0 || y != 0), api.OK
	}
	return integer(x), api.OK
}

// pairwise compares or concatenates values after converting the second one to the kind of the first.
func pairwise(op int, a, b api.Value) (api.Value, api.Errno) {
	if a.Kind != api.ValInteger && a.Kind != api.ValString && a.Kind != api.ValBuffer {
		return api.Value{}, api.ErrType
	}
	b, e := Convert(b, a.Kind)
	if e != api.OK {
		return api.Value{}, e
	}
	if op == api.OpConcatenate {
		return concatenate(a, b)
	}
	less, equal := a.Str < b.Str, a.Str == b.Str
	if a.Kind == api.ValInteger {
		less, equal = a.Int < b.Int, a.Int == b.Int
	}
	switch op {
	case api.OpLEqual:
		return logical(equal), api.OK
	case api.OpLLess:
		return logical(less), api.OK
	}
	return logical(!less && !equal), api.OK
}

// concatenate joins two values of the same kind.
func concatenate(a, b api.Value) (api.Value, api.Errno) {
	if a.Kind == api.ValInteger {
		return api.Value{Kind: api.ValBuffer, Str: little(a.Int) + little(b.Int)}, api.OK
	}
	s, e := limited(a.Str + b.Str)
	return textValue(a.Kind, s, e)
}
