package depgraph

import (
	"slices"
	"testing"

	"platformfw/api"
)

func links(pairs ...int) []api.Link {
	var l []api.Link
	for i := 0; i < len(pairs); i += 2 {
		l = append(l, api.Link{Consumer: pairs[i], Supplier: pairs[i+1]})
	}
	return l
}

// P24.1: errors in their order, which the other calls return as well.
func TestCheck(t *testing.T) {
	for i, c := range []struct {
		n int
		l []api.Link
		e api.Errno
	}{
		{0, nil, 0}, {-1, nil, api.ErrInvalid}, {129, nil, api.ErrInvalid}, {128, nil, 0}, {128, make([]api.Link, 1025), api.ErrInvalid}, {2, links(0, 2), api.ErrInvalid}, {2, links(-1, 0), api.ErrInvalid}, {2, links(0, -1), api.ErrInvalid}, {2, links(2, 0), api.ErrInvalid},
		{2, links(0, 1, 1, 0, 0, 1), api.ErrDuplicate}, {2, links(0, 1, 0, 1, 5, 0), api.ErrInvalid}, {2, links(0, 1, 1, 0), api.ErrCycle}, {1, links(0, 0), api.ErrCycle}, {3, links(2, 0, 0, 1, 2, 1), 0},
	} {
		_, e1 := Order(c.n, c.l)
		_, e2 := Levels(c.n, c.l)
		r, e3 := Reduce(c.n, c.l)
		if Check(c.n, c.l) != c.e || e1 != c.e || e2 != c.e || e3 != c.e || c.e != api.OK && r != nil {
			t.Error(i, Check(c.n, c.l), e1, e2, e3)
		}
		want := c.e
		if want == api.ErrCycle {
			want = api.OK
		}
		_, e4 := Suppliers(c.n, c.l, nil)
		_, e5 := Consumers(c.n, c.l, nil)
		if e4 != want || e5 != want {
			t.Error(i, e4, e5)
		}
	}
}

// P24.2: the smallest order.
func TestOrder(t *testing.T) {
	for _, c := range []struct {
		n    int
		l    []api.Link
		want []int
	}{{3, links(2, 0, 0, 1, 2, 1), []int{1, 0, 2}}, {5, nil, []int{0, 1, 2, 3, 4}}, {5, links(0, 4, 1, 3), []int{2, 3, 1, 4, 0}}, {4, links(1, 0, 2, 0, 0, 3), []int{3, 0, 1, 2}}} {
		if got, e := Order(c.n, c.l); !slices.Equal(got, c.want) || e != api.OK {
			t.Error(c, got, e)
		}
	}
}

// P24.3: cycles.
func TestCycle(t *testing.T) {
	for i, c := range []struct {
		n    int
		l    []api.Link
		want []int
		e    api.Errno
	}{
		{2, links(0, 1, 1, 0), []int{0, 1}, 0}, {3, links(0, 1, 1, 2), nil, api.ErrNotFound}, {0, nil, nil, api.ErrNotFound}, {2, links(1, 1), []int{1}, 0}, {5, links(0, 3, 3, 2, 2, 3, 2, 1), []int{3, 2}, 0}, {4, links(0, 3, 0, 2, 2, 0, 3, 0), []int{0, 2}, 0},
		{3, links(1, 0, 1, 2, 2, 1), []int{1, 2}, 0}, {2, links(0, 2), nil, api.ErrInvalid}, {2, links(0, 1, 0, 1), nil, api.ErrDuplicate},
	} {
		if got, e := Cycle(c.n, c.l); !slices.Equal(got, c.want) || e != c.e {
			t.Error(i, got, e)
		}
	}
}

// P24.4: levels.
func TestLevels(t *testing.T) {
	if got, _ := Levels(3, links(2, 0, 0, 1, 2, 1)); !slices.Equal(got, []int{1, 0, 2}) {
		t.Error(got)
	}
	if got, _ := Levels(5, links(4, 0, 4, 3, 3, 2)); !slices.Equal(got, []int{0, 0, 0, 1, 2}) {
		t.Error(got)
	}
}

// P24.5: all suppliers and all consumers, also on cycles.
func TestSuppliersConsumers(t *testing.T) {
	l := links(0, 1, 1, 2, 2, 1, 3, 0)
	for i, c := range []struct{ of, suppliers, consumers []int }{{[]int{0}, []int{0, 1, 2}, []int{0, 3}}, {[]int{2, 2, 4}, []int{1, 2, 4}, []int{0, 1, 2, 3, 4}}, {nil, nil, nil}} {
		s, e1 := Suppliers(5, l, c.of)
		d, e2 := Consumers(5, l, c.of)
		if !slices.Equal(s, c.suppliers) || !slices.Equal(d, c.consumers) || e1 != 0 || e2 != 0 {
			t.Error(i, s, d)
		}
	}
	for _, of := range [][]int{{0, 5}, {-1}} {
		s, e1 := Suppliers(5, l, of)
		d, e2 := Consumers(5, l, of)
		if s != nil || d != nil || e1 != api.ErrInvalid || e2 != api.ErrInvalid {
			t.Error(of)
		}
	}
	if _, e := Suppliers(2, links(0, 1, 0, 1), []int{9}); e != api.ErrDuplicate {
		t.Error(e)
	}
}

// P24.6: links that cannot be omitted.
func TestReduce(t *testing.T) {
	for i, c := range []struct {
		n       int
		l, want []api.Link
	}{{3, links(2, 0, 0, 1, 2, 1), links(0, 1, 2, 0)}, {4, links(3, 2, 3, 1, 3, 0, 2, 1, 1, 0), links(1, 0, 2, 1, 3, 2)}, {4, links(3, 2, 3, 1, 2, 0, 1, 0, 3, 0), links(1, 0, 2, 0, 3, 1, 3, 2)}, {2, nil, nil}} {
		if got, e := Reduce(c.n, c.l); !slices.Equal(got, c.want) || e != api.OK {
			t.Error(i, got, e)
		}
	}
}
