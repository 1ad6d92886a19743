package decomp

import (
	"math"
	"slices"
	"testing"

	"arborist/api"
	"arborist/graph"
)

const room = 77

// withRoom hands out a list with room behind it, as a call that appends to it would write there.
func withRoom[T any](l []T, behind T) []T { return append(slices.Clone(l), behind, behind)[:len(l)] }

func intact[T comparable](in, was []T, behind T) bool {
	return slices.Equal(in, was) && slices.Equal(in[:len(in)+2][len(in):], []T{behind, behind})
}

func overwriteList[T any](l []T, with T) {
	l = l[:cap(l)]
	for i := range l {
		l[i] = with
	}
}

func copyOf(tree api.Tree) api.Tree {
	out := api.Tree{Parent: slices.Clone(tree.Parent)}
	for _, b := range tree.Bags {
		out.Bags = append(out.Bags, slices.Clone(b))
	}
	return out
}

func sameTrees(a, b api.Tree) bool {
	return sameRows(a.Bags, b.Bags) && slices.Equal(a.Parent, b.Parent)
}

// handed is a graph and an order, each with room behind it, and what they were.
type handed struct {
	g     api.Graph
	order []int
	adj   []uint64
	list  []int
}

func hand(m model, list []int) handed {
	adj := m.graph().Adj
	return handed{g: api.Graph{Adj: withRoom(adj, room)}, order: withRoom(list, room), adj: adj, list: list}
}

func (h handed) checkIntact(t *testing.T) {
	t.Helper()
	if !intact(h.g.Adj, h.adj, room) || !intact(h.order, h.list, room) {
		t.Fatalf("changed: %v %v from %v %v", h.g, h.order, h.adj, h.list)
	}
}

func (h handed) overwrite() {
	overwriteList(h.g.Adj, 1000)
	overwriteList(h.order, -9)
}

// checkApart overwrites the lists of an answer one by one: none of the others may change, nor what was handed in.
func checkApart(t *testing.T, h handed, got, want api.Tree) {
	t.Helper()
	for i := range got.Bags {
		overwriteList(got.Bags[i], -9)
		h.checkIntact(t)
		got.Bags[i] = want.Bags[i]
		if !sameTrees(got, want) {
			t.Fatalf("bag %d is seen elsewhere: %v, not %v", i, got, want)
		}
	}
	overwriteList(got.Parent, -9)
	h.checkIntact(t)
	if !sameRows(got.Bags, want.Bags) {
		t.Fatalf("the parents are seen elsewhere: %v, not %v", got, want)
	}
}

func TestBuildKeepsNothing(t *testing.T) {
	for n := range 5 {
		wrong := [][]int{nil, {0, 0}, counting(n + 1), {-1, 0, 1}}
		for _, m := range smallOnes(n) {
			for _, list := range append(orders(n), wrong...) {
				h := hand(m, list)
				got, e := Build(h.g, h.order)
				want := copyOf(got)
				h.checkIntact(t)
				h.overwrite()
				if !sameTrees(got, want) {
					t.Fatalf("the answer hangs on what was handed in: %v, not %v", got, want)
				}
				h = hand(m, list)
				got, _ = Build(h.g, h.order)
				checkApart(t, h, got, want)
				again, f := Build(m.graph(), list)
				if !sameTrees(again, want) || f != e {
					t.Fatalf("the answer is kept: %v %v, not %v %v", again, f, want, e)
				}
			}
		}
	}
}

// Nothing hangs on a map's order: many bags that have as much in common give it many ways to go wrong.
func TestBuildIsTheSameEachTime(t *testing.T) {
	for _, m := range []model{modelOf(40), star(40), path(40), ring(40), branching(40, 7, 2), scattered()[0]} {
		for _, l := range someWays(m) {
			want, e := Build(m.graph(), l)
			for range 50 {
				if got, f := Build(m.graph(), l); e != f || !sameTrees(got, want) {
					t.Fatalf("%v by %v: %v %v, then %v %v", m.graph(), l, want, e, got, f)
				}
			}
		}
	}
}

// Of graphs that are not right nothing is promised, but that all end without a panic.
func TestWrongGraphsEnd(t *testing.T) {
	full := make([]uint64, 100)
	for i := range full {
		full[i] = math.MaxUint64
	}
	for _, adj := range [][]uint64{{1}, {2}, {3, 0}, {6, 0, 0}, {0, 1 << 63}, {math.MaxUint64}, full[:3], full[:40], full[:41], full[:64], full[:65], full} {
		g := api.Graph{Adj: adj}
		if graph.Right(g) {
			t.Errorf("%v is right", adj)
		}
		for _, list := range [][]int{nil, {0}, {1, 0}, counting(len(adj)), turnedRound(counting(len(adj))), counting(len(adj) + 1), {-1, math.MaxInt, math.MinInt}} {
			Build(g, list)
		}
	}
}
