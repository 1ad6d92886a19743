// Package tuple is layer 1: see shared/doc/01-tuple.md.
package tuple

import (
	"cmp"
	"slices"
)

// Compare tells -1, 0 or 1, as a is less than b, the same, or greater (A1).
func Compare(a, b []int) int {
	for i := range min(len(a), len(b)) {
		if a[i] != b[i] {
			return cmp.Compare(a[i], b[i])
		}
	}
	return cmp.Compare(len(a), len(b))
}

// Sort answers the tuples of l, rising, each once (A1).
func Sort(l [][]int) [][]int {
	rows := slices.Clone(l)
	slices.SortFunc(rows, Compare)
	out := [][]int{}
	for i, t := range rows {
		if i == 0 || Compare(rows[i-1], t) != 0 {
			out = append(out, own(t))
		}
	}
	return out
}

// own copies a row, since an answer shares nothing with what was handed in.
func own(t []int) []int {
	out := make([]int, len(t))
	copy(out, t)
	return out
}

// Find answers the place of t in a list that rises, and true; or the place where it would be, and false (A1).
func Find(l [][]int, t []int) (int, bool) {
	return slices.BinarySearchFunc(l, t, Compare)
}

// Pick answers the numbers of t at these places, without the places that t does not have (A1).
func Pick(t, places []int) []int {
	out := []int{}
	for _, p := range places {
		if 0 <= p && p < len(t) {
			out = append(out, t[p])
		}
	}
	return out
}

// Rising tells whether each number is greater than the one ahead of it (A2).
func Rising(l []int) bool {
	for i := 1; i < len(l); i++ {
		if l[i-1] >= l[i] {
			return false
		}
	}
	return true
}

// Unite answers the numbers of two rows that rise, rising (A2).
func Unite(a, b []int) []int {
	return merge(a, b, func(inA, inB bool) bool { return inA || inB })
}

// Meet answers the numbers that are in both of two rows that rise (A2).
func Meet(a, b []int) []int {
	return merge(a, b, func(inA, inB bool) bool { return inA && inB })
}

// Without answers the numbers of a that are not in b, where both rise (A2).
func Without(a, b []int) []int {
	return merge(a, b, func(inA, inB bool) bool { return inA && !inB })
}

// Within tells whether each number of a is in b, where both rise (A2).
func Within(a, b []int) bool {
	return len(Without(a, b)) == 0
}

// merge goes through two rows that rise, side by side, and answers the numbers of which keep says so.
func merge(a, b []int, keep func(inA, inB bool) bool) []int {
	out := []int{}
	i, k := 0, 0
	for i < len(a) || k < len(b) {
		inA := i < len(a) && (k == len(b) || a[i] <= b[k])
		inB := k < len(b) && (i == len(a) || b[k] <= a[i])
		var n int
		if inB {
			n = b[k]
			k++
		}
		if inA {
			n = a[i]
			i++
		}
		if keep(inA, inB) {
			out = append(out, n)
		}
	}
	return out
}
