package value

import (
	"strings"
	"testing"

	"platformfw/api"
)

func num(n uint64) api.Value { return api.Value{Kind: api.ValInteger, Int: n, Str: "junk", Obj: 9} }
func str(s string) api.Value { return api.Value{Kind: api.ValString, Str: s, Int: 9, Obj: 9} }
func buf(s string) api.Value { return api.Value{Kind: api.ValBuffer, Str: s, Int: 9, Obj: 9} }
func obj(kind int) api.Value { return api.Value{Kind: kind, Obj: 5, Int: 9, Str: "junk"} }

var bad = api.Value{Kind: 7}

func long(n int) string { return strings.Repeat("a", n) }

// P8.1: validity and conversions.
func TestConversions(t *testing.T) {
	for _, v := range []api.Value{{}, num(1), str(long(255)), buf(long(255)), obj(4), obj(5), obj(6)} {
		if !Valid(v) {
			t.Error(v)
		}
	}
	for _, v := range []api.Value{bad, {Kind: -1}, str(long(256)), buf(long(256))} {
		_, e1 := Integer(v)
		_, e2 := String(v)
		_, e3 := Buffer(v)
		if Valid(v) || e1 != api.ErrInvalid || e2 != api.ErrInvalid || e3 != api.ErrInvalid {
			t.Error(v)
		}
	}
	for _, c := range []struct {
		v api.Value
		n uint64
		s string
		b string
	}{
		{num(255), 255, "00000000000000FF", "\xff\x00\x00\x00\x00\x00\x00\x00"}, {str("1Fz"), 31, "1Fz", "1Fz\x00"}, {str(""), 0, "", "\x00"}, {str("0x1"), 0, "0x1", "0x1\x00"},
		{str("fFfFfFfFfFfFfFfF1"), 1<<64 - 1, "fFfFfFfFfFfFfFfF1", "fFfFfFfFfFfFfFfF1\x00"}, {buf("\x01\x02"), 0x201, "01 02", "\x01\x02"}, {buf("\x00\x00\x00\x00\x00\x00\x00\x80\xff"), 1 << 63, "00 00 00 00 00 00 00 80 FF", "\x00\x00\x00\x00\x00\x00\x00\x80\xff"}, {buf(""), 0, "", ""},
	} {
		n, e1 := Integer(c.v)
		s, e2 := String(c.v)
		b, e3 := Buffer(c.v)
		if n != c.n || s != c.s || b != c.b || e1 != 0 || e2 != 0 || e3 != 0 {
			t.Error(c, n, s, b)
		}
	}
	for _, kind := range []int{0, 4, 5, 6} {
		_, e1 := Integer(obj(kind))
		_, e2 := String(obj(kind))
		_, e3 := Buffer(obj(kind))
		if e1 != api.ErrType || e2 != api.ErrType || e3 != api.ErrType {
			t.Error(kind)
		}
	}
	if s, e := String(buf(long(85))); len(s) != 254 || e != 0 {
		t.Error(e)
	}
	if s, e := String(buf(long(86))); s != "" || e != api.ErrOverflow {
		t.Error(e)
	}
	if s, e := Buffer(str(long(255))); s != "" || e != api.ErrOverflow {
		t.Error(e)
	}
}

type result struct {
	v api.Value
	e api.Errno
}

func want(kind int, n uint64, s string) result {
	return result{api.Value{Kind: kind, Int: n, Str: s}, 0}
}

func same(t *testing.T, what any, v api.Value, e api.Errno, r result) {
	t.Helper()
	if v != r.v || e != r.e {
		t.Error(what, v, e, r)
	}
}

// P8.2: conversion to any kind.
func TestConvert(t *testing.T) {
	v, e := Convert(str("A"), api.ValInteger)
	same(t, 1, v, e, want(1, 10, ""))
	v, e = Convert(num(1), api.ValString)
	same(t, 2, v, e, want(2, 0, "0000000000000001"))
	v, e = Convert(str("A"), api.ValBuffer)
	same(t, 3, v, e, want(3, 0, "A\x00"))
	v, e = Convert(obj(5), api.ValReference)
	same(t, 4, v, e, result{api.Value{Kind: 5, Obj: 5}, 0})
	v, e = Convert(api.Value{Int: 3}, api.ValNone)
	same(t, 5, v, e, result{})
	for i, c := range []struct {
		v    api.Value
		kind int
		e    api.Errno
	}{{bad, 1, api.ErrInvalid}, {bad, 7, api.ErrInvalid}, {num(1), 4, api.ErrType}, {obj(4), 1, api.ErrType}, {obj(4), 5, api.ErrType}, {num(1), 99, api.ErrType}, {str(long(255)), 3, api.ErrOverflow}, {num(1), 0, api.ErrType}} {
		v, e := Convert(c.v, c.kind)
		same(t, i, v, e, result{e: c.e})
	}
}

// P8.3: operators with one operand.
func TestUnary(t *testing.T) {
	for _, c := range []struct {
		op int
		v  api.Value
		r  result
	}{
		{api.OpNot, num(0), want(1, 1<<64-1, "")}, {api.OpNot, str("F"), want(1, ^uint64(15), "")}, {api.OpLNot, num(2), want(1, 0, "")}, {api.OpLNot, buf(""), want(1, 1<<64-1, "")}, {api.OpLNot, obj(4), result{e: api.ErrType}},
		{api.OpSizeOf, str("abc"), want(1, 3, "")}, {api.OpSizeOf, buf(""), want(1, 0, "")}, {api.OpSizeOf, num(1), result{e: api.ErrType}}, {api.OpSizeOf, obj(4), result{e: api.ErrType}},
		{api.OpToInteger, str("0x1Fz"), want(1, 31, "")}, {api.OpToInteger, str("0XfF"), want(1, 255, "")}, {api.OpToInteger, str("12A"), want(1, 12, "")}, {api.OpToInteger, str("0x"), want(1, 0, "")}, {api.OpToInteger, str("x"), want(1, 0, "")},
		{api.OpToInteger, str("18446744073709551615"), want(1, 1<<64-1, "")}, {api.OpToInteger, str("18446744073709551616"), result{e: api.ErrOverflow}}, {api.OpToInteger, str("0x00FFFFFFFFFFFFFFFF"), want(1, 1<<64-1, "")}, {api.OpToInteger, str("0x10000000000000000"), result{e: api.ErrOverflow}},
		{api.OpToInteger, buf("\x05"), want(1, 5, "")}, {api.OpToInteger, obj(6), result{e: api.ErrType}}, {api.OpToBuffer, str("a"), want(3, 0, "a\x00")}, {api.OpToBuffer, api.Value{}, result{e: api.ErrType}},
		{api.OpToHexString, num(0), want(2, 0, "0x0")}, {api.OpToHexString, num(0xABC), want(2, 0, "0xABC")}, {api.OpToHexString, buf("\x01\xff"), want(2, 0, "0x01,0xFF")}, {api.OpToHexString, buf(""), want(2, 0, "")}, {api.OpToHexString, str("q"), want(2, 0, "q")},
		{api.OpToHexString, buf(long(51)), want(2, 0, strings.Repeat("0x61,", 50)+"0x61")}, {api.OpToHexString, buf(long(52)), result{e: api.ErrOverflow}}, {api.OpToHexString, obj(4), result{e: api.ErrType}},
		{api.OpToDecimalString, num(1<<64 - 1), want(2, 0, "18446744073709551615")}, {api.OpToDecimalString, buf("\x00\x0a\xff"), want(2, 0, "0,10,255")}, {api.OpToDecimalString, buf(long(255)), result{e: api.ErrOverflow}}, {api.OpToDecimalString, api.Value{}, result{e: api.ErrType}},
		{api.OpNot, bad, result{e: api.ErrInvalid}}, {api.OpAdd, num(1), result{e: api.ErrInvalid}}, {0, num(1), result{e: api.ErrInvalid}}, {api.OpDerefOf, obj(5), result{e: api.ErrInvalid}},
	} {
		v, e := Unary(c.op, c.v)
		same(t, c.op, v, e, c.r)
	}
}

// P8.4: operators with two operands.
func TestBinary(t *testing.T) {
	const top = 1<<64 - 1
	yes, no := want(1, top, ""), want(1, 0, "")
	for _, c := range []struct {
		op   int
		a, b api.Value
		r    result
	}{
		{api.OpAdd, num(top), num(2), want(1, 1, "")}, {api.OpSubtract, num(1), num(2), want(1, top, "")}, {api.OpMultiply, num(1 << 63), num(3), want(1, 1<<63, "")}, {api.OpDivide, num(7), num(2), want(1, 3, "")}, {api.OpMod, num(7), num(4), want(1, 3, "")},
		{api.OpDivide, num(7), num(0), result{e: api.ErrDivide}}, {api.OpMod, num(7), str("z"), result{e: api.ErrDivide}}, {api.OpDivide, obj(4), num(0), result{e: api.ErrType}}, {api.OpDivide, num(1), obj(4), result{e: api.ErrType}},
		{api.OpAnd, num(6), num(3), want(1, 2, "")}, {api.OpOr, num(6), str("1"), want(1, 7, "")}, {api.OpXor, num(6), buf("\x03"), want(1, 5, "")}, {api.OpShiftLeft, num(1), num(63), want(1, 1<<63, "")}, {api.OpShiftLeft, num(1), num(64), no}, {api.OpShiftRight, num(top), num(63), want(1, 1, "")}, {api.OpShiftRight, num(top), num(top), no},
		{api.OpLAnd, num(1), num(2), yes}, {api.OpLAnd, num(1), num(0), no}, {api.OpLOr, num(0), num(2), yes}, {api.OpLOr, num(0), num(0), no}, {api.OpLOr, num(1), obj(5), result{e: api.ErrType}},
		{api.OpLEqual, num(31), str("1F"), yes}, {api.OpLEqual, str("1F"), num(31), no}, {api.OpLEqual, buf("a\x00"), str("a"), yes}, {api.OpLLess, num(2), num(10), yes}, {api.OpLLess, str("2"), str("10"), no}, {api.OpLLess, str("a"), str("ab"), yes}, {api.OpLGreater, buf("\xff"), buf("\x01\x01"), yes}, {api.OpLGreater, num(2), num(2), no},
		{api.OpLEqual, obj(4), num(1), result{e: api.ErrType}}, {api.OpLEqual, num(1), obj(4), result{e: api.ErrType}}, {api.OpLEqual, str("a"), buf(long(86)), result{e: api.ErrOverflow}},
		{api.OpConcatenate, str("a"), num(255), want(2, 0, "a00000000000000FF")}, {api.OpConcatenate, num(1), str("2"), want(3, 0, "\x01\x00\x00\x00\x00\x00\x00\x00\x02\x00\x00\x00\x00\x00\x00\x00")}, {api.OpConcatenate, buf("a"), str("b"), want(3, 0, "ab\x00")},
		{api.OpConcatenate, str(long(200)), str(long(55)), want(2, 0, long(255))}, {api.OpConcatenate, str(long(200)), str(long(56)), result{e: api.ErrOverflow}}, {api.OpConcatenate, api.Value{}, num(1), result{e: api.ErrType}},
		{api.OpAdd, bad, num(1), result{e: api.ErrInvalid}}, {api.OpAdd, obj(4), bad, result{e: api.ErrInvalid}}, {api.OpIndex, num(1), num(1), result{e: api.ErrInvalid}}, {api.OpNot, num(1), num(1), result{e: api.ErrInvalid}}, {0, num(1), num(1), result{e: api.ErrInvalid}},
	} {
		v, e := Binary(c.op, c.a, c.b)
		same(t, []any{c.op, c.a, c.b}, v, e, c.r)
	}
}

// P8.5: parts of strings and buffers.
func TestMid(t *testing.T) {
	const top = 1<<64 - 1
	for _, c := range []struct {
		a    api.Value
		i, n uint64
		r    result
	}{
		{str("abcd"), 1, 2, want(2, 0, "bc")}, {buf("abcd"), 3, 9, want(3, 0, "d")}, {buf("abcd"), 4, 1, want(3, 0, "")}, {str("abcd"), top, top, want(2, 0, "")}, {str("abcd"), 1, top, want(2, 0, "bcd")}, {str("a"), 0, 0, want(2, 0, "")},
		{num(0x4142), 0, 2, want(3, 0, "BA")}, {obj(4), 0, 1, result{e: api.ErrType}}, {bad, 0, 1, result{e: api.ErrInvalid}},
	} {
		v, e := Mid(c.a, c.i, c.n)
		same(t, c, v, e, c.r)
	}
}
