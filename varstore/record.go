package varstore

import (
	"math/bits"
	"strings"

	"platformfw/api"
)

// Types of records.
const (
	typeSet    = 1
	typeDelete = 2
	typeHeader = 3
)

const (
	recordHead      = 5 // the type, the lengths and the check
	generationBytes = 8
	erasedByte      = 0xFF
)

// record is a record of the flash.
type record struct {
	kind  byte
	name  string
	value string
}

// permitted tells whether the name and the value of a record have lengths that its type permits.
func (r record) permitted() bool {
	switch r.kind {
	case typeSet:
		return validName(r.name) && len(r.value) <= api.MaxVarValue
	case typeDelete:
		return validName(r.name) && r.value == ""
	case typeHeader:
		return r.name == "" && len(r.value) == generationBytes
	}
	return false
}

func validName(name string) bool { return len(name) >= 1 && len(name) <= api.MaxVarName }

// zeroBits returns the number of bits of a text that are 0.
func zeroBits(s string) int {
	n := 0
	for i := range len(s) {
		n += 8 - bits.OnesCount8(s[i])
	}
	return n
}

// encode returns the bytes of a record, filled up to whole pages.
func (r record) encode() string {
	head := string([]byte{r.kind, byte(len(r.name)), byte(len(r.value))})
	check := zeroBits(head) + zeroBits(r.name) + zeroBits(r.value)
	s := head + string([]byte{byte(check >> 8), byte(check)}) + r.name + r.value
	return s + erased(pages(len(s))*api.FlashBytes-len(s))
}

// erased returns n erased bytes.
func erased(n int) string { return strings.Repeat(string([]byte{erasedByte}), n) }

// pages returns the number of pages that have room for some bytes.
func pages(bytes int) int { return (bytes + api.FlashBytes - 1) / api.FlashBytes }

// decode returns the valid record with which a text begins, and the number of its pages.
func decode(s string) (record, int, bool) {
	if len(s) < recordHead {
		return record{}, 0, false
	}
	nameEnd := recordHead + int(s[1])
	end := nameEnd + int(s[2])
	if len(s) < end {
		return record{}, 0, false
	}
	r := record{kind: s[0], name: s[recordHead:nameEnd], value: s[nameEnd:end]}
	if !r.permitted() {
		return record{}, 0, false
	}
	code := r.encode()
	if !strings.HasPrefix(s, code) {
		return record{}, 0, false
	}
	return r, len(code) / api.FlashBytes, true
}

// headerRecord returns the header of a block.
func headerRecord(generation uint64) record {
	b := make([]byte, generationBytes)
	for i := range b {
		b[i] = byte(generation >> (56 - 8*i))
	}
	return record{kind: typeHeader, value: string(b)}
}

// generation returns the generation that a header contains.
func (r record) generation() uint64 {
	n := uint64(0)
	for i := range len(r.value) {
		n = n<<8 | uint64(r.value[i])
	}
	return n
}
