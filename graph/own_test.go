package graph

import (
	"math"
	"slices"
	"testing"

	"arborist/api"
)

const room = 77

// withRoom hands out a list with room behind it, as a call that appends to it would write there.
func withRoom[T any](l []T, behind T) []T { return append(slices.Clone(l), behind, behind)[:len(l)] }

func roomIsLeft[T comparable](l []T, behind T) bool {
	return slices.Equal(l[:len(l)+2][len(l):], []T{behind, behind})
}

func overwriteList[T any](l []T, with T) {
	l = l[:cap(l)]
	for i := range l {
		l[i] = with
	}
}

func intact[T comparable](in, was []T, behind T) bool {
	return slices.Equal(in, was) && roomIsLeft(in, behind)
}

func deepCopy(l [][]int) [][]int {
	out := make([][]int, len(l))
	for i := range l {
		out[i] = slices.Clone(l[i])
	}
	return out
}

func TestNewIsTheCallers(t *testing.T) {
	overwriteList(New(5).Adj, 31)
	if got := New(5); !same(got, api.Graph{Adj: make([]uint64, 5)}) {
		t.Error(got)
	}
}

func TestJoinKeepsNothing(t *testing.T) {
	for _, m := range smallGraphs(4) {
		for _, e := range [][2]int{{0, 1}, {1, 3}, {0, 0}, {-1, 2}, {9, 0}} {
			g := api.Graph{Adj: withRoom(m.graph().Adj, room)}
			got := Join(g, e[0], e[1])
			want := slices.Clone(got.Adj)
			if !intact(g.Adj, m.graph().Adj, room) {
				t.Fatalf("changed: %v from %v", g, m.graph())
			}
			overwriteList(got.Adj, 1000)
			if !intact(g.Adj, m.graph().Adj, room) {
				t.Fatalf("the answer is the argument: %v from %v", g, m.graph())
			}
			got = Join(g, e[0], e[1])
			overwriteList(g.Adj, 1000)
			if !slices.Equal(got.Adj, want) {
				t.Fatalf("the answer hangs on what was handed in: %v, not %v", got, want)
			}
		}
	}
}

func TestQuestionsChangeNothing(t *testing.T) {
	for _, m := range smallGraphs(4) {
		g := api.Graph{Adj: withRoom(m.graph().Adj, room)}
		l := withRoom([]int{2, 0, 2}, room)
		Right(g)
		Beside(g, 1, 2)
		Clique(g, l)
		next := Neighbors(g, 0)
		parts := Parts(g)
		if !intact(g.Adj, m.graph().Adj, room) || !intact(l, []int{2, 0, 2}, room) {
			t.Fatalf("changed: %v %v from %v", g, l, m.graph())
		}
		overwriteList(g.Adj, 1000)
		if !slices.Equal(next, m.neighbors(0)) || !sameParts(parts, m.parts()) {
			t.Fatalf("the answer hangs on what was handed in: %v %v, of %v", next, parts, m.graph())
		}
		overwriteList(next, -9)
		if got := Neighbors(m.graph(), 0); !slices.Equal(got, m.neighbors(0)) {
			t.Fatalf("the answer is kept: %v", got)
		}
	}
}

func TestPartsShareNothing(t *testing.T) {
	for _, m := range smallGraphs(4) {
		got := Parts(m.graph())
		want := deepCopy(got)
		for i := range got {
			overwriteList(got[i], -9)
			got[i] = want[i]
			if !sameParts(got, want) {
				t.Fatalf("part %d is seen elsewhere: %v, not %v", i, got, want)
			}
		}
	}
}

func TestPrimalKeepsNothing(t *testing.T) {
	scopes := [][]int{{0, 1}, {1, 2, 3}, {2}, {0, 3}}
	x := instanceOf(4, nil, nil)
	var in [][]int
	for _, scope := range scopes {
		hard, soft := withRoom(scope, room), withRoom(scope, room)
		in = append(in, hard, soft)
		x.Hard = append(x.Hard, api.Constraint{Kind: api.Diff, Scope: hard})
		x.Soft = append(x.Soft, api.Soft{Scope: soft})
	}
	x.Domains, x.Hard, x.Soft = withRoom(x.Domains, nil), withRoom(x.Hard, api.Constraint{}), withRoom(x.Soft, api.Soft{})
	got := Primal(x)
	want := slices.Clone(got.Adj)
	for i, l := range in {
		if !intact(l, scopes[i/2], room) {
			t.Fatalf("changed: %v from %v", l, scopes[i/2])
		}
	}
	for _, d := range x.Domains {
		if !slices.Equal(d, []int{0}) {
			t.Fatalf("changed: %v", d)
		}
	}
	for _, l := range in {
		overwriteList(l, 0)
	}
	overwriteList(x.Domains, nil)
	overwriteList(x.Hard, api.Constraint{})
	overwriteList(x.Soft, api.Soft{})
	if !slices.Equal(got.Adj, want) {
		t.Fatalf("the answer hangs on what was handed in: %v, not %v", got, want)
	}
}

// What is no right graph, no right instance or no point is promised nothing, but that all end without a panic.
func TestWrongInputsEnd(t *testing.T) {
	full := make([]uint64, 200)
	for i := range full {
		full[i] = math.MaxUint64
	}
	numbers := []int{-1, 0, 1, 3, 39, 40, 63, 64, 199, 200, math.MaxInt, math.MinInt}
	for _, adj := range [][]uint64{nil, {1}, {2}, {6, 0}, {0, 1 << 63}, full[:40], full[:63], full[:64], full[:65], full} {
		g := api.Graph{Adj: adj}
		Right(g)
		Parts(g)
		Clique(g, numbers)
		Clique(g, []int{0, 1})
		for _, a := range numbers {
			Neighbors(g, a)
			for _, b := range numbers {
				Join(g, a, b)
				Beside(g, a, b)
			}
		}
	}
	for _, n := range []int{0, 2, 40, 41, 64, 65, 300} {
		for _, scope := range [][]int{nil, {}, {0, 0}, {1, 0}, numbers, {-5}} {
			x := instanceOf(n, [][]int{scope}, [][]int{scope})
			if g := Primal(x); !Right(g) {
				t.Errorf("%d %v: %v", n, scope, g)
			}
		}
	}
}
