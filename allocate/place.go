package allocate

import (
	"cmp"
	"slices"

	"platformfw/api"
)

const (
	maxAddress  = 1 << 52
	maxLevel    = 52
	largestSize = 44
	mostSizes   = 1024
)

// validList reports whether a list of ranges is valid.
func validList(l []api.Range) bool {
	if len(l) > api.MaxFree {
		return false
	}
	for _, r := range l {
		if r.Len < 1 || r.Len > maxAddress || r.Base > maxAddress-r.Len {
			return false
		}
	}
	return true
}

// merge returns the bytes of a list as ascending ranges with gaps between them.
func merge(l []api.Range) []api.Range {
	sorted := slices.Clone(l)
	slices.SortFunc(sorted, func(a, b api.Range) int { return cmp.Compare(a.Base, b.Base) })
	var out []api.Range
	for _, r := range sorted {
		last := len(out) - 1
		if last < 0 || r.Base > out[last].Base+out[last].Len {
			out = append(out, r)
			continue
		}
		out[last].Len = max(out[last].Len, r.Base+r.Len-out[last].Base)
	}
	return out
}

// without returns the bytes of merged ranges that are not in a range.
func without(l []api.Range, cut api.Range) []api.Range {
	var out []api.Range
	cutEnd := cut.Base + cut.Len
	for _, r := range l {
		end := r.Base + r.Len
		if cutEnd <= r.Base || end <= cut.Base {
			out = append(out, r)
			continue
		}
		if r.Base < cut.Base {
			out = append(out, api.Range{Base: r.Base, Len: cut.Base - r.Base})
		}
		if cutEnd < end {
			out = append(out, api.Range{Base: cutEnd, Len: end - cutEnd})
		}
	}
	return out
}

// Free returns the bytes of l that are not in fixed, as ascending ranges with gaps between them.
func Free(l, fixed []api.Range) []api.Range {
	if !validList(l) || !validList(fixed) {
		return nil
	}
	free := merge(l)
	for _, cut := range merge(fixed) {
		free = without(free, cut)
	}
	return free
}

// blockIn returns the base of the first aligned block in a range, and how many the range contains.
func blockIn(r api.Range, k int) (uint64, uint64) {
	size := uint64(1) << k
	first := (r.Base + size - 1) >> k
	end := (r.Base + r.Len) >> k
	if end <= first {
		return 0, 0
	}
	return first << k, end - first
}

// Blocks returns the number of aligned blocks of a level that are free.
func Blocks(free []api.Range, k int) uint64 {
	if !validList(free) || k < 0 || k > maxLevel {
		return 0
	}
	sum := uint64(0)
	for _, r := range merge(free) {
		_, n := blockIn(r, k)
		sum += n
	}
	return sum
}

func validSizes(sizes []int) bool {
	if len(sizes) > mostSizes {
		return false
	}
	for _, s := range sizes {
		if s < 0 || s > largestSize {
			return false
		}
	}
	return true
}

// Place places items of the given sizes into free space.
func Place(free []api.Range, sizes []int) ([]uint64, api.Certificate, api.Errno) {
	if !validList(free) || !validSizes(sizes) {
		return nil, api.Certificate{}, api.ErrInvalid
	}
	order := make([]int, len(sizes))
	for i := range order {
		order[i] = i
	}
	slices.SortStableFunc(order, func(a, b int) int { return cmp.Compare(sizes[b], sizes[a]) })
	left := merge(free)
	bases := make([]uint64, len(sizes))
	for _, i := range order {
		base, ok := lowest(left, sizes[i])
		if !ok {
			return nil, certificate(free, sizes), api.ErrNoSpace
		}
		bases[i] = base
		left = without(left, api.Range{Base: base, Len: 1 << sizes[i]})
	}
	return bases, api.Certificate{}, api.OK
}

// lowest returns the base of the lowest aligned block in merged ranges.
func lowest(l []api.Range, k int) (uint64, bool) {
	for _, r := range l {
		if base, n := blockIn(r, k); n > 0 {
			return base, true
		}
	}
	return 0, false
}

// proof returns the certificate of a level, and whether it proves that the items do not fit.
func proof(free []api.Range, sizes []int, k int) (api.Certificate, bool) {
	c := api.Certificate{Level: k, Blocks: Blocks(free, k)}
	for _, s := range sizes {
		if s >= k {
			c.Demand += 1 << s
		}
	}
	return c, c.Demand > c.Blocks<<k
}

// certificate returns the certificate of the highest level that proves that the items do not fit.
func certificate(free []api.Range, sizes []int) api.Certificate {
	for k := maxLevel; k >= 0; k-- {
		if c, ok := proof(free, sizes, k); ok {
			return c
		}
	}
	return api.Certificate{}
}

// Refutes reports whether a certificate proves that the items do not fit.
func Refutes(free []api.Range, sizes []int, c api.Certificate) bool {
	if !validList(free) || !validSizes(sizes) || c.Level < 0 || c.Level > maxLevel {
		return false
	}
	want, ok := proof(free, sizes, c.Level)
	return ok && c.Demand == want.Demand && c.Blocks == want.Blocks
}
