package grammar

import (
	"testing"

	"platformfw/api"
)

// Every operator with a keyword is found by it, and its shortest form is accepted.
func TestForms(t *testing.T) {
	count := 0
	for op := -1; op < 100; op++ {
		word, kinds := Form(op)
		if word == "" {
			continue
		}
		count++
		k, ok := KidKinds(api.Node{Op: op, Kids: len(kinds)})
		if Operator(word) != op || !ok || k != kinds {
			t.Error(op, word, k)
		}
	}
	if count != 12+13+2+29 || Operator("") != 0 || Operator("Else") != 0 {
		t.Error(count)
	}
}
