package order

import (
	"math"
	"slices"
	"testing"
)

// counting answers 0 .. n - 1.
func counting(n int) []int {
	out := make([]int, n)
	for i := range out {
		out[i] = i
	}
	return out
}

// down answers n - 1 .. 0.
func down(n int) []int {
	out := counting(n)
	slices.Reverse(out)
	return out
}

// lists are all lists of up to most numbers from low to high.
func lists(most, low, high int) [][]int {
	out, last := [][]int{nil}, [][]int{nil}
	for range most {
		var next [][]int
		for _, l := range last {
			for v := low; v <= high; v++ {
				next = append(next, append(slices.Clone(l), v))
			}
		}
		out, last = append(out, next...), next
	}
	return out
}

func TestValid(t *testing.T) {
	twice := counting(40)
	twice[39] = 0
	for _, c := range []struct {
		name  string
		n     int
		order []int
		want  bool
	}{
		{"no point, nil", 0, nil, true},
		{"no point, no items", 0, []int{}, true},
		{"no point, a row", 0, []int{0}, false},
		{"below 0, no row", -1, nil, false},
		{"below 0, no items", -1, []int{}, false},
		{"below 0, a row", -1, []int{0}, false},
		{"below 0, that number", -1, []int{-1}, false},
		{"far below 0", math.MinInt, nil, false},
		{"one", 1, []int{0}, true},
		{"one, but none", 1, nil, false},
		{"one, but another", 1, []int{1}, false},
		{"one, but below 0", 1, []int{-1}, false},
		{"rising", 3, []int{0, 1, 2}, true},
		{"falling", 3, []int{2, 1, 0}, true},
		{"neither", 3, []int{2, 0, 1}, true},
		{"a point too few", 3, []int{2, 0}, false},
		{"a point too many", 3, []int{0, 1, 2, 3}, false},
		{"a point too many, twice there", 3, []int{0, 1, 2, 0}, false},
		{"all of it twice", 3, []int{0, 1, 2, 0, 1, 2}, false},
		{"a point twice", 3, []int{2, 0, 0}, false},
		{"a point twice, apart", 3, []int{1, 0, 1}, false},
		{"a number below 0, first", 3, []int{-1, 0, 1}, false},
		{"a number below 0, last", 3, []int{1, 2, -1}, false},
		{"the number n, first", 3, []int{3, 0, 1}, false},
		{"the number n, last", 3, []int{0, 1, 3}, false},
		{"from 1 on", 3, []int{1, 2, 3}, false},
		{"far too great", 2, []int{0, math.MaxInt}, false},
		{"far too small", 2, []int{math.MinInt, 1}, false},
		{"far too many points", math.MaxInt, []int{0, 1}, false},
		{"40", 40, counting(40), true},
		{"40, falling", 40, down(40), true},
		{"40, the first twice", 40, twice, false},
		{"more than a graph may have", 1000, down(1000), true},
	} {
		if got := Valid(c.n, c.order); got != c.want {
			t.Errorf("%s: %v", c.name, got)
		}
	}
}

// A list is an order just if it is what counting is, once it is sorted.
func TestValidOfAllSmallOnes(t *testing.T) {
	all := lists(5, -1, 5)
	for n := -2; n <= 5; n++ {
		for _, l := range all {
			want := n >= 0 && slices.Equal(slices.Sorted(slices.Values(l)), counting(max(n, 0)))
			if got := Valid(n, l); got != want {
				t.Fatalf("%d %v: %v", n, l, got)
			}
		}
	}
}
