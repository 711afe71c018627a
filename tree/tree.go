// Package tree walks syntax trees that are stored as lists of nodes in preorder.
//
// The calls of package syntax test the whole program each time; a pass over a program that is known to be valid uses these instead.
package tree

import "platformfw/api"

// Ends returns, for each node, the index after its subtree. Subtrees that extend beyond the list end with it.
func Ends(p []api.Node) []int {
	ends := make([]int, len(p))
	for i := len(p) - 1; i >= 0; i-- {
		end := i + 1
		for k := 0; k < p[i].Kids && end < len(p); k++ {
			end = ends[end]
		}
		ends[i] = end
	}
	return ends
}

// Kids returns the indices of the children of node i.
func Kids(p []api.Node, ends []int, i int) []int {
	var l []int
	at := i + 1
	for k := 0; k < p[i].Kids && at < len(p); k++ {
		l = append(l, at)
		at = ends[at]
	}
	return l
}
