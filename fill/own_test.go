package fill

import (
	"math"
	"slices"
	"testing"

	"arborist/api"
	"arborist/graph"
)

const room = 77

// withRoom hands out a list with room behind it, as a call that appends to it would write there.
func withRoom[T any](l []T, behind T) []T { return append(slices.Clone(l), behind, behind)[:len(l)] }

func intact[T comparable](in, was []T, behind T) bool {
	return slices.Equal(in, was) && slices.Equal(in[:len(in)+2][len(in):], []T{behind, behind})
}

func overwriteList[T any](l []T, with T) {
	l = l[:cap(l)]
	for i := range l {
		l[i] = with
	}
}

func deepCopy(l [][]int) [][]int {
	out := make([][]int, len(l))
	for i := range l {
		out[i] = slices.Clone(l[i])
	}
	return out
}

// handed is a graph and an order, each with room behind it, and what they were.
type handed struct {
	g     api.Graph
	order []int
	adj   []uint64
	list  []int
}

func hand(m model, list []int) handed {
	adj := m.graph().Adj
	return handed{g: api.Graph{Adj: withRoom(adj, room)}, order: withRoom(list, room), adj: adj, list: list}
}

func (h handed) checkIntact(t *testing.T) {
	t.Helper()
	if !intact(h.g.Adj, h.adj, room) || !intact(h.order, h.list, room) {
		t.Fatalf("changed: %v %v from %v %v", h.g, h.order, h.adj, h.list)
	}
}

func (h handed) overwrite() {
	overwriteList(h.g.Adj, 1000)
	overwriteList(h.order, -9)
}

// someOrders are orders, and rows that are none.
func someOrders(n int) [][]int {
	return append(orders(n), nil, []int{0, 0}, counting(n+1), []int{-1, 0, 1})
}

func TestFilledKeepsNothing(t *testing.T) {
	for _, m := range smallOnes(4) {
		for _, list := range someOrders(len(m)) {
			h := hand(m, list)
			got, e := Filled(h.g, h.order)
			want := slices.Clone(got.Adj)
			h.checkIntact(t)
			overwriteList(got.Adj, 1000)
			h.checkIntact(t)
			got, _ = Filled(h.g, h.order)
			h.overwrite()
			if !slices.Equal(got.Adj, want) {
				t.Fatalf("the answer hangs on what was handed in: %v, not %v", got, want)
			}
			overwriteList(got.Adj, 1000)
			again, f := Filled(m.graph(), list)
			if !slices.Equal(again.Adj, want) || f != e {
				t.Fatalf("the answer is kept: %v %v, not %v %v", again, f, want, e)
			}
		}
	}
}

func TestBagsKeepNothing(t *testing.T) {
	for _, m := range smallOnes(4) {
		for _, list := range someOrders(len(m)) {
			h := hand(m, list)
			got, e := Bags(h.g, h.order)
			want := deepCopy(got)
			h.checkIntact(t)
			h.overwrite()
			if !sameRows(got, want) {
				t.Fatalf("the answer hangs on what was handed in: %v, not %v", got, want)
			}
			h = hand(m, list)
			got, _ = Bags(h.g, h.order)
			for i := range got {
				overwriteList(got[i], -9)
				h.checkIntact(t)
				got[i] = want[i]
				if !sameRows(got, want) {
					t.Fatalf("bag %d is seen elsewhere: %v, not %v", i, got, want)
				}
			}
			again, f := Bags(m.graph(), list)
			if !sameRows(again, want) || f != e {
				t.Fatalf("the answer is kept: %v %v, not %v %v", again, f, want, e)
			}
		}
	}
}

func TestWidthAndChordalChangeNothing(t *testing.T) {
	for _, m := range smallOnes(4) {
		chordal := Chordal(m.graph())
		for _, list := range someOrders(len(m)) {
			h := hand(m, list)
			first, e := Width(h.g, h.order)
			h.checkIntact(t)
			if Chordal(h.g) != chordal {
				t.Fatalf("%v: not %v again", h.g, chordal)
			}
			h.checkIntact(t)
			h.overwrite()
			if again, f := Width(m.graph(), list); again != first || f != e {
				t.Fatalf("%v by %v: %d %v, then %d %v", h.adj, list, first, e, again, f)
			}
		}
	}
}

// Of graphs that are not right nothing is promised, but that all end without a panic.
func TestWrongGraphsEnd(t *testing.T) {
	full := make([]uint64, 100)
	for i := range full {
		full[i] = math.MaxUint64
	}
	for _, adj := range [][]uint64{{1}, {2}, {3, 0}, {6, 0, 0}, {0, 1 << 63}, {math.MaxUint64}, full[:3], full[:40], full[:41], full[:64], full[:65], full} {
		g := api.Graph{Adj: adj}
		if graph.Right(g) {
			t.Errorf("%v is right", adj)
		}
		for _, list := range [][]int{nil, {0}, {1, 0}, counting(len(adj)), counting(len(adj) + 1), {-1, math.MaxInt, math.MinInt}} {
			Filled(g, list)
			Bags(g, list)
			Width(g, list)
		}
		Chordal(g)
	}
}
