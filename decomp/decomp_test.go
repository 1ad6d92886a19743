package decomp

import (
	"math"
	"slices"
	"testing"

	"arborist/api"
)

// known is a tree that is known without the program.
type known struct {
	name   string
	m      model
	order  []int
	bags   [][]int
	parent []int
}

func (c known) check(t *testing.T) {
	t.Helper()
	got, e := Build(c.m.graph(), c.order)
	if e != api.OK || !sameRows(got.Bags, c.bags) || !slices.Equal(got.Parent, c.parent) {
		t.Errorf("%s: %v %v, not %v %v", c.name, got, e, c.bags, c.parent)
	}
}

// TestBuild holds trees that were worked out by hand.
func TestBuild(t *testing.T) {
	cross := modelOf(5, [2]int{0, 1}, [2]int{0, 3}, [2]int{0, 4}, [2]int{1, 2})
	chain := modelOf(4, [2]int{3, 0}, [2]int{0, 1}, [2]int{1, 2})
	two := modelOf(6, [2]int{0, 1}, [2]int{1, 2}, [2]int{3, 4}, [2]int{4, 5})
	for _, c := range []known{
		{"no points", modelOf(0), nil, nil, nil},
		{"no points, a row without numbers", modelOf(0), []int{}, nil, nil},
		{"one point", modelOf(1), []int{0}, [][]int{{0}}, []int{-1}},
		{"two points apart", modelOf(2), []int{1, 0}, [][]int{{1}, {0}}, []int{-1, 0}},
		{"two points", path(2), []int{1, 0}, [][]int{{0, 1}}, []int{-1}},
		{"the ring of four", ring(4), []int{0, 1, 2, 3}, [][]int{{0, 1, 3}, {1, 2, 3}}, []int{-1, 0}},
		{"the ring of four, otherwise", ring(4), []int{3, 0, 2, 1}, [][]int{{0, 2, 3}, {0, 1, 2}}, []int{-1, 0}},
		{"a ring of five: the greater part is in the later one", ring(5), []int{0, 1, 2, 3, 4}, [][]int{{0, 1, 4}, {1, 2, 4}, {2, 3, 4}}, []int{-1, 0, 1}},
		{"a ring of five: the last is beside the root", ring(5), []int{0, 2, 1, 3, 4}, [][]int{{0, 1, 4}, {1, 2, 3}, {1, 3, 4}}, []int{-1, 2, 0}},
		{"a path from its end", path(4), []int{0, 1, 2, 3}, [][]int{{0, 1}, {1, 2}, {2, 3}}, []int{-1, 0, 1}},
		{"a path from its middle", path(4), []int{1, 2, 0, 3}, [][]int{{0, 1, 2}, {0, 2, 3}}, []int{-1, 0}},
		{"a path from both ends: the last comes ahead of the second", path(4), []int{0, 3, 1, 2}, [][]int{{0, 1}, {2, 3}, {1, 2}}, []int{-1, 2, 0}},
		{"a path with other numbers", chain, []int{3, 2, 1, 0}, [][]int{{0, 3}, {1, 2}, {0, 1}}, []int{-1, 2, 0}},
		{"a star from its points: all have as much of each other, and the root is least", star(5), []int{4, 1, 3, 2, 0}, [][]int{{0, 4}, {0, 1}, {0, 3}, {0, 2}}, []int{-1, 0, 0, 0}},
		{"a star from its middle", star(5), []int{0, 4, 1, 3, 2}, [][]int{{0, 1, 2, 3, 4}}, []int{-1}},
		{"each beside each", clique(4), []int{2, 0, 3, 1}, [][]int{{0, 1, 2, 3}}, []int{-1}},
		{"none beside any", modelOf(4), []int{2, 0, 3, 1}, [][]int{{2}, {0}, {3}, {1}}, []int{-1, 0, 0, 0}},
		{"the one that came first is not the least", cross, []int{2, 3, 4, 1, 0}, [][]int{{1, 2}, {0, 3}, {0, 4}, {0, 1}}, []int{-1, 3, 1, 0}},
		{"the least of those that have nothing of the tree", modelOf(4, [2]int{0, 1}, [2]int{0, 2}), []int{3, 2, 1, 0}, [][]int{{3}, {0, 2}, {0, 1}}, []int{-1, 0, 1}},
		{"two parts", two, []int{0, 3, 1, 4, 2, 5}, [][]int{{0, 1}, {3, 4}, {1, 2}, {4, 5}}, []int{-1, 0, 0, 1}},
		{"a part that comes last hangs at the root", two, []int{0, 1, 2, 3, 4, 5}, [][]int{{0, 1}, {1, 2}, {3, 4}, {4, 5}}, []int{-1, 0, 0, 2}},
		{"a root that has nothing of any other", path(3).and(1), []int{3, 1, 0, 2}, [][]int{{3}, {0, 1, 2}}, []int{-1, 0}},
		{"a last one that has nothing of any other", path(3).and(1), []int{0, 2, 1, 3}, [][]int{{0, 1}, {1, 2}, {3}}, []int{-1, 0, 0}},
		{"left out, with others between", modelOf(4, [2]int{0, 1}, [2]int{2, 3}), []int{0, 2, 1, 3}, [][]int{{0, 1}, {2, 3}}, []int{-1, 0}},
		{"left out ahead of one that stays", clique(3).and(1), []int{1, 2, 0, 3}, [][]int{{0, 1, 2}, {3}}, []int{-1, 0}},
	} {
		c.check(t)
	}
}

// turnedRound is a list the other way round.
func turnedRound[T any](l []T) []T {
	out := slices.Clone(l)
	slices.Reverse(out)
	return out
}

// before answers of so many bags that each one's parent is the one ahead of it.
func before(n int) []int {
	out := counting(n)
	for i := range out {
		out[i]--
	}
	return out
}

// atRoot answers of so many bags that each one's parent is the first.
func atRoot(n int) []int {
	out := make([]int, n)
	out[0] = -1
	return out
}

func TestBuildOfFortyPoints(t *testing.T) {
	var pairs, around, spokes, alone [][]int
	for i := range 40 {
		if i < 39 {
			pairs, spokes = append(pairs, []int{i, i + 1}), append(spokes, []int{0, i + 1})
		}
		if i < 38 {
			around = append(around, []int{i, i + 1, 39})
		}
		alone = append(alone, []int{39 - i})
	}
	down := turnedRound(counting(40))
	for _, c := range []known{
		{"a path", path(40), counting(40), pairs, before(39)},
		{"a path, back", path(40), down, turnedRound(pairs), before(39)},
		{"a ring", ring(40), counting(40), around, before(38)},
		{"a star", star(40), append(counting(40)[1:], 0), spokes, atRoot(39)},
		{"a star from its middle", star(40), counting(40), [][]int{counting(40)}, atRoot(1)},
		{"each beside each", clique(40), down, [][]int{counting(40)}, atRoot(1)},
		{"none beside any", modelOf(40), down, alone, atRoot(40)},
	} {
		c.check(t)
	}
}

// checkNone asks that there is an error, and nothing else.
func checkNone(t *testing.T, m model, list []int) {
	t.Helper()
	got, e := Build(m.graph(), list)
	if e != api.ErrOrder || got.Bags != nil || got.Parent != nil {
		t.Errorf("%d points by %v: %v %v", len(m), list, got, e)
	}
}

func TestBuildOfNoOrder(t *testing.T) {
	for _, m := range []model{modelOf(4), path(4), ring(4), clique(4)} {
		for _, list := range [][]int{
			nil, {}, {0}, {0, 1, 2}, {1, 2, 3}, {0, 1, 2, 3, 4}, {0, 1, 2, 3, 0}, {0, 1, 2, 3, 3}, {0, 1, 2, 3, -1},
			{0, 1, 2, 2}, {0, 0, 2, 3}, {3, 1, 2, 3}, {1, 1, 1, 1},
			{-1, 1, 2, 3}, {0, 1, 2, -1}, {0, -2, 1, 2}, {0, 1, 2, 4}, {4, 3, 2, 1}, {1, 2, 3, 4},
			{0, 1, 2, math.MaxInt}, {math.MinInt, 1, 2, 3}, {0, 1, 2, 64}, {0, 1, 2, 1 << 32},
		} {
			checkNone(t, m, list)
		}
	}
	for _, list := range [][]int{{0}, {-1}, {1}, {0, 0}} {
		checkNone(t, modelOf(0), list)
	}
	for _, list := range [][]int{nil, {}, {1}, {-1}, {0, 0}, {0, 1}} {
		checkNone(t, modelOf(1), list)
	}
	for _, m := range []model{modelOf(40), path(40), clique(40)} {
		checkNone(t, m, counting(39))
		checkNone(t, m, counting(41))
		checkNone(t, m, counting(41)[1:])
		checkNone(t, m, before(40))
		checkNone(t, m, append(counting(39), 0))
	}
}
