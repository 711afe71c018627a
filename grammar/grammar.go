// Package grammar holds the tables of the description language: the source form of each operator and the children that it has.
package grammar

import "platformfw/api"

// Form returns the keyword of an operator and the kinds of its children, as the letters of the chapter's tables. Operators without a keyword have none.
func Form(op int) (string, string) {
	switch {
	case op < api.OpStore:
		return declarationForm(op)
	case op < api.OpBuffer:
		return statementForm(op)
	}
	return expressionForm(op)
}

func declarationForm(op int) (string, string) {
	switch op {
	case api.OpScope:
		return "Scope", "nD"
	case api.OpDevice:
		return "Device", "sD"
	case api.OpPowerResource:
		return "PowerResource", "siiD"
	case api.OpNameDecl:
		return "Name", "sd"
	case api.OpMethod:
		return "Method", "siiiS"
	case api.OpRegion:
		return "OperationRegion", "siii"
	case api.OpField:
		return "Field", "niiF"
	case api.OpIndexField:
		return "IndexField", "nniiF"
	case api.OpUnit:
		return "Unit", "si"
	case api.OpSkip:
		return "Skip", "i"
	case api.OpMutex:
		return "Mutex", "si"
	case api.OpEvent:
		return "Event", "s"
	}
	return "", ""
}

// statementForm gives the shortest form: Return may have an expression, and If a second block.
func statementForm(op int) (string, string) {
	switch op {
	case api.OpStore:
		return "Store", "et"
	case api.OpIf:
		return "If", "eS"
	case api.OpWhile:
		return "While", "eS"
	case api.OpReturn:
		return "Return", ""
	case api.OpBreak:
		return "Break", ""
	case api.OpContinue:
		return "Continue", ""
	case api.OpRelease:
		return "Release", "n"
	case api.OpSignal:
		return "Signal", "n"
	case api.OpReset:
		return "Reset", "n"
	case api.OpSleep:
		return "Sleep", "e"
	case api.OpNotify:
		return "Notify", "ne"
	case api.OpAcquire:
		return "Acquire", "ni"
	case api.OpWait:
		return "Wait", "ne"
	}
	return "", ""
}

func expressionForm(op int) (string, string) {
	switch op {
	case api.OpBuffer:
		return "Buffer", "iI"
	case api.OpPackage:
		return "Package", "iP"
	case api.OpNot:
		return "Not", "e"
	case api.OpLNot:
		return "LNot", "e"
	case api.OpSizeOf:
		return "SizeOf", "e"
	case api.OpToInteger:
		return "ToInteger", "e"
	case api.OpToBuffer:
		return "ToBuffer", "e"
	case api.OpToHexString:
		return "ToHexString", "e"
	case api.OpToDecimalString:
		return "ToDecimalString", "e"
	case api.OpDerefOf:
		return "DerefOf", "e"
	case api.OpRefOf:
		return "RefOf", "t"
	case api.OpCondRefOf:
		return "CondRefOf", "n"
	case api.OpObjectType:
		return "ObjectType", "t"
	case api.OpMid:
		return "Mid", "eee"
	}
	if word := binaryKeyword(op); word != "" {
		return word, "ee"
	}
	return "", ""
}

func binaryKeyword(op int) string {
	switch op {
	case api.OpAdd:
		return "Add"
	case api.OpSubtract:
		return "Subtract"
	case api.OpMultiply:
		return "Multiply"
	case api.OpDivide:
		return "Divide"
	case api.OpMod:
		return "Mod"
	case api.OpAnd:
		return "And"
	case api.OpOr:
		return "Or"
	case api.OpXor:
		return "Xor"
	case api.OpShiftLeft:
		return "ShiftLeft"
	case api.OpShiftRight:
		return "ShiftRight"
	case api.OpLAnd:
		return "LAnd"
	case api.OpLOr:
		return "LOr"
	case api.OpLEqual:
		return "LEqual"
	case api.OpLLess:
		return "LLess"
	case api.OpLGreater:
		return "LGreater"
	case api.OpConcatenate:
		return "Concatenate"
	case api.OpIndex:
		return "Index"
	}
	return ""
}

// Operator returns the operator of a keyword, or 0.
func Operator(word string) int {
	for op := api.OpScope; op <= api.OpMid; op++ {
		if w, _ := Form(op); w == word && w != "" {
			return op
		}
	}
	return 0
}

func isDeclaration(op int) bool {
	return op >= api.OpScope && op <= api.OpIndexField || op == api.OpMutex || op == api.OpEvent
}

func isElement(op int) bool { return op == api.OpUnit || op == api.OpSkip }

func isStatement(op int) bool {
	return op >= api.OpStore && op <= api.OpWait || op == api.OpCall
}

func isData(op int) bool {
	return op == api.OpInt || op == api.OpString || op == api.OpBuffer || op == api.OpPackage
}

func isTarget(op int) bool {
	switch op {
	case api.OpName, api.OpLocal, api.OpArg, api.OpIndex, api.OpDerefOf:
		return true
	}
	return false
}

func isExpression(op int) bool {
	switch op {
	case api.OpName, api.OpCall, api.OpLocal, api.OpArg, api.OpAcquire, api.OpWait:
		return true
	}
	return isData(op) || op >= api.OpAdd && op <= api.OpMid
}

// Permitted tells whether an operator may stand where a kind of child is required. Blocks are asked for by the kind of their elements.
func Permitted(kind byte, op int) bool {
	switch kind {
	case 'n', 's':
		return op == api.OpName
	case 'i', 'I':
		return op == api.OpInt
	case 'e':
		return isExpression(op)
	case 't':
		return isTarget(op)
	case 'd':
		return isData(op)
	case 'D':
		return isDeclaration(op)
	case 'S':
		return isStatement(op)
	case 'F':
		return isElement(op)
	case 'P':
		return isData(op) || op == api.OpName
	}
	return false
}

// IsBlock tells whether a kind of child is a block.
func IsBlock(kind byte) bool { return kind >= 'A' && kind <= 'Z' }

// IsList tells whether the elements of a block are separated by commas on one line.
func IsList(kind byte) bool { return kind == 'I' || kind == 'P' }

// KidKinds returns the kinds of the children that a node must have, given how many it has.
func KidKinds(n api.Node) (string, bool) {
	switch n.Op {
	case api.OpInt, api.OpString, api.OpName, api.OpLocal, api.OpArg:
		return "", n.Kids == 0
	case api.OpCall:
		if n.Kids < 0 || n.Kids > api.MaxArgs {
			return "", false
		}
		return "eeeeeee"[:n.Kids], true
	case api.OpReturn:
		if n.Kids == 1 {
			return "e", true
		}
	case api.OpIf:
		if n.Kids == 3 {
			return "eSS", true
		}
	}
	word, kinds := Form(n.Op)
	return kinds, word != "" && n.Kids == len(kinds)
}
