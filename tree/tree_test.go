package tree

import (
	"slices"
	"testing"

	"platformfw/api"
)

func TestEndsAndKids(t *testing.T) {
	p := []api.Node{{Kids: 2}, {}, {Kids: 2}, {}, {}, {}}
	ends := Ends(p)
	if !slices.Equal(ends, []int{5, 2, 5, 4, 5, 6}) || !slices.Equal(Kids(p, ends, 0), []int{1, 2}) || Kids(p, ends, 5) != nil {
		t.Error(ends)
	}
	if cut := Ends([]api.Node{{Kids: 3}, {Kids: 1}}); !slices.Equal(cut, []int{2, 2}) {
		t.Error(cut)
	}
}
