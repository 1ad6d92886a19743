package graph

import (
	"math"
	"slices"
	"testing"

	"arborist/api"
)

// matrix says of a graph, told anew, who is beside whom.
type matrix [][]bool

func matrixOf(n int, edges ...[2]int) matrix {
	m := make(matrix, n)
	for i := range m {
		m[i] = make([]bool, n)
	}
	for _, e := range edges {
		m[e[0]][e[1]], m[e[1]][e[0]] = true, true
	}
	return m
}

func (m matrix) graph() api.Graph {
	adj := make([]uint64, len(m))
	for i := range m {
		for k, beside := range m[i] {
			if beside {
				adj[i] += uint64(math.Pow(2, float64(k)))
			}
		}
	}
	return api.Graph{Adj: adj}
}

func (m matrix) beside(a, b int) bool {
	return a >= 0 && a < len(m) && b >= 0 && b < len(m) && m[a][b]
}

func (m matrix) neighbors(a int) []int {
	var out []int
	for b := range m {
		if m.beside(a, b) {
			out = append(out, b)
		}
	}
	return out
}

func (m matrix) clique(l []int) bool {
	for _, a := range l {
		if a < 0 || a >= len(m) {
			return false
		}
		for _, b := range l {
			if a != b && !m.beside(a, b) {
				return false
			}
		}
	}
	return true
}

// parts goes by who leads to whom in the end, over any that are between.
func (m matrix) parts() [][]int {
	leads := matrixOf(len(m))
	for a := range m {
		copy(leads[a], m[a])
		leads[a][a] = true
	}
	for k := range m {
		for a := range m {
			for b := range m {
				leads[a][b] = leads[a][b] || leads[a][k] && leads[k][b]
			}
		}
	}
	var out [][]int
	for a := range m {
		part := leads.neighbors(a)
		if part[0] == a {
			out = append(out, part)
		}
	}
	return out
}

// pairs are all edges that there may be of n points.
func pairs(n int) [][2]int {
	var out [][2]int
	for b := range n {
		for a := range b {
			out = append(out, [2]int{a, b})
		}
	}
	return out
}

// smallGraphs are all right graphs of up to most points.
func smallGraphs(most int) []matrix {
	var out []matrix
	for n := range most + 1 {
		all := pairs(n)
		for set := range 1 << len(all) {
			var edges [][2]int
			for i, e := range all {
				if set>>i&1 == 1 {
					edges = append(edges, e)
				}
			}
			out = append(out, matrixOf(n, edges...))
		}
	}
	return out
}

// lists are all lists of up to most numbers from low to high.
func lists(most, low, high int) [][]int {
	out, last := [][]int{nil}, [][]int{nil}
	for range most {
		var next [][]int
		for _, l := range last {
			for v := low; v <= high; v++ {
				next = append(next, append(slices.Clone(l), v))
			}
		}
		out, last = append(out, next...), next
	}
	return out
}

func path(n int) matrix {
	var edges [][2]int
	for i := 1; i < n; i++ {
		edges = append(edges, [2]int{i - 1, i})
	}
	return matrixOf(n, edges...)
}

func same(a, b api.Graph) bool { return slices.Equal(a.Adj, b.Adj) }

func sameParts(a, b [][]int) bool { return slices.EqualFunc(a, b, slices.Equal) }

func TestNew(t *testing.T) {
	for n, want := range map[int]int{0: 0, 1: 1, 5: 5, 39: 39, 40: 40, 41: 40, 64: 40, 1000: 40, -1: 0, -40: 0, math.MaxInt: 40, math.MinInt: 0} {
		if got := New(n); !same(got, api.Graph{Adj: make([]uint64, want)}) {
			t.Errorf("%d: %v", n, got)
		}
		if !Right(New(n)) {
			t.Errorf("%d: not right", n)
		}
	}
}

func TestRight(t *testing.T) {
	top := uint64(1) << 39
	ends := make([]uint64, 40)
	ends[0], ends[39] = top, 1
	oneSide := slices.Clone(ends)
	oneSide[0] = 0
	otherSide := slices.Clone(ends)
	otherSide[39] = 0
	above := make([]uint64, 40)
	above[3] = 1 << 40
	last := make([]uint64, 40)
	last[39] = top
	for _, c := range []struct {
		name string
		adj  []uint64
		want bool
	}{
		{"no points", nil, true},
		{"one point", []uint64{0}, true},
		{"two", []uint64{2, 1}, true},
		{"40 without edges", make([]uint64, 40), true},
		{"the first and the last of 40", ends, true},
		{"41 points", make([]uint64, 41), false},
		{"64 points", make([]uint64, 64), false},
		{"100 points", make([]uint64, 100), false},
		{"a bit of no point, one above", []uint64{2}, false},
		{"a bit of no point, the last bit", []uint64{0, 1 << 63}, false},
		{"a bit of no point, 40 of 40", above, false},
		{"beside itself", []uint64{1}, false},
		{"beside itself, too", []uint64{2, 3}, false},
		{"the last one beside itself", last, false},
		{"one side alone", []uint64{2, 0}, false},
		{"the other side alone", []uint64{0, 1}, false},
		{"39 alone", oneSide, false},
		{"0 alone", otherSide, false},
	} {
		if got := Right(api.Graph{Adj: c.adj}); got != c.want {
			t.Errorf("%s: %v", c.name, got)
		}
	}
}

// Of three points, each list of bits up to one of no point: right are just those of the matrices.
func TestRightOfAllSmallOnes(t *testing.T) {
	for n := range 4 {
		for set := range 1 << (4 * n) {
			adj := make([]uint64, n)
			for i := range adj {
				adj[i] = uint64(set >> (4 * i) & 15)
			}
			want := slices.ContainsFunc(smallGraphs(3), func(m matrix) bool { return slices.Equal(m.graph().Adj, adj) })
			if got := Right(api.Graph{Adj: adj}); got != want {
				t.Fatalf("%v: %v", adj, got)
			}
		}
	}
}

func TestJoin(t *testing.T) {
	for _, c := range []struct {
		name string
		n    int
		a, b int
		want [][2]int
	}{
		{"two points", 3, 0, 2, [][2]int{{0, 2}}},
		{"turned", 3, 2, 0, [][2]int{{0, 2}}},
		{"the ends of 40", 40, 0, 39, [][2]int{{0, 39}}},
		{"itself", 3, 1, 1, nil},
		{"one past the last", 3, 0, 3, nil},
		{"one past the last, turned", 3, 3, 0, nil},
		{"below 0", 3, -1, 2, nil},
		{"below 0, turned", 3, 2, -1, nil},
		{"both none", 3, -1, 3, nil},
		{"too great", 40, 0, 40, nil},
		{"too great for a bit", 40, 64, 1, nil},
		{"far too great", 40, math.MaxInt, 0, nil},
		{"far too small", 40, 0, math.MinInt, nil},
		{"no points", 0, 0, 1, nil},
	} {
		want := matrixOf(c.n, c.want...).graph()
		once := Join(New(c.n), c.a, c.b)
		if !same(once, want) {
			t.Errorf("%s: %v", c.name, once)
		}
		if again := Join(once, c.a, c.b); !same(again, want) {
			t.Errorf("%s, again: %v", c.name, again)
		}
		if turned := Join(once, c.b, c.a); !same(turned, want) {
			t.Errorf("%s, turned: %v", c.name, turned)
		}
	}
}

func TestJoinOfAllSmallOnes(t *testing.T) {
	for _, m := range smallGraphs(4) {
		for _, e := range lists(2, -2, 5) {
			if len(e) < 2 {
				continue
			}
			a, b := e[0], e[1]
			want := m.graph()
			if min(a, b) >= 0 && max(a, b) < len(m) && a != b {
				more := matrixOf(len(m), [2]int{a, b})
				for i := range m {
					for k := range m {
						more[i][k] = more[i][k] || m[i][k]
					}
				}
				want = more.graph()
			}
			if got := Join(m.graph(), a, b); !same(got, want) || !Right(got) {
				t.Fatalf("%v %d %d: %v", m.graph(), a, b, got)
			}
		}
	}
}

func TestBesideAndNeighbors(t *testing.T) {
	star := matrixOf(40, [2]int{20, 39}, [2]int{0, 20}, [2]int{20, 7}, [2]int{0, 39})
	for _, m := range append(smallGraphs(5), matrixOf(40), path(40), star, matrixOf(40, pairs(40)...)) {
		g := m.graph()
		for a := -3; a < 70; a++ {
			if got := Neighbors(g, a); !slices.Equal(got, m.neighbors(a)) {
				t.Fatalf("%v %d: %v", g, a, got)
			}
			for b := -3; b < 70; b++ {
				if got := Beside(g, a, b); got != m.beside(a, b) {
					t.Fatalf("%v %d %d: %v", g, a, b, got)
				}
			}
		}
	}
	if got := Neighbors(star.graph(), 20); !slices.Equal(got, []int{0, 7, 39}) {
		t.Error("not rising", got)
	}
	if got := Neighbors(Join(New(3), 0, 2), 2); !slices.Equal(got, []int{0}) {
		t.Error(got)
	}
	g := star.graph()
	for _, far := range []int{math.MaxInt, math.MinInt, 64, 128, -64} {
		if Beside(g, far, 0) || Beside(g, 0, far) || len(Neighbors(g, far)) != 0 {
			t.Error(far)
		}
	}
}

func TestClique(t *testing.T) {
	triangle := matrixOf(5, [2]int{0, 1}, [2]int{1, 2}, [2]int{0, 2}, [2]int{3, 4}).graph()
	ends := matrixOf(40, [2]int{0, 39}).graph()
	all := matrixOf(40, pairs(40)...).graph()
	var forty []int
	for i := range 40 {
		forty = append(forty, 39-i)
	}
	for _, c := range []struct {
		name string
		g    api.Graph
		l    []int
		want bool
	}{
		{"no point", triangle, nil, true},
		{"no point, of none", New(0), nil, true},
		{"one", triangle, []int{3}, true},
		{"one, twice", triangle, []int{3, 3}, true},
		{"two", triangle, []int{4, 3}, true},
		{"two, one twice", triangle, []int{4, 3, 4}, true},
		{"three, in any order", triangle, []int{2, 0, 1}, true},
		{"not beside", triangle, []int{0, 3}, false},
		{"not beside, turned", triangle, []int{3, 0}, false},
		{"one of three is not beside", triangle, []int{0, 1, 4}, false},
		{"two pairs", triangle, []int{0, 1, 3, 4}, false},
		{"one past the last", triangle, []int{5}, false},
		{"one past the last, ahead", triangle, []int{5, 0, 1}, false},
		{"one past the last, at the end", triangle, []int{0, 1, 5}, false},
		{"below 0", triangle, []int{-1}, false},
		{"below 0, among others", triangle, []int{0, -1, 1}, false},
		{"too great for a bit", triangle, []int{0, 64}, false},
		{"far too great", triangle, []int{math.MaxInt}, false},
		{"far too small", triangle, []int{math.MinInt}, false},
		{"a point of no graph", New(0), []int{0}, false},
		{"the ends of 40", ends, []int{39, 0}, true},
		{"the ends of 40 and 1", ends, []int{39, 0, 1}, false},
		{"all 40", all, forty, true},
	} {
		if got := Clique(c.g, c.l); got != c.want {
			t.Errorf("%s: %v", c.name, got)
		}
	}
}

func TestCliqueOfAllSmallOnes(t *testing.T) {
	all := lists(4, -1, 4)
	for _, m := range smallGraphs(4) {
		g := m.graph()
		for _, l := range all {
			if got := Clique(g, l); got != m.clique(l) {
				t.Fatalf("%v %v: %v", g, l, got)
			}
		}
	}
}

func TestParts(t *testing.T) {
	forty := make([][]int, 40)
	for i := range forty {
		forty[i] = []int{i}
	}
	for _, c := range []struct {
		name string
		m    matrix
		want [][]int
	}{
		{"no points", matrixOf(0), nil},
		{"one point", matrixOf(1), [][]int{{0}}},
		{"no edges", matrixOf(3), [][]int{{0}, {1}, {2}}},
		{"40 without edges", matrixOf(40), forty},
		{"a path", path(5), [][]int{{0, 1, 2, 3, 4}}},
		{"a path that goes to and fro", matrixOf(5, [2]int{0, 4}, [2]int{4, 1}, [2]int{1, 3}, [2]int{3, 2}), [][]int{{0, 1, 2, 3, 4}}},
		{"two that are among each other", matrixOf(6, [2]int{0, 5}, [2]int{5, 3}, [2]int{1, 4}, [2]int{4, 2}), [][]int{{0, 3, 5}, {1, 2, 4}}},
		{"a ring, and one for itself", matrixOf(5, [2]int{1, 2}, [2]int{2, 4}, [2]int{4, 3}, [2]int{3, 1}), [][]int{{0}, {1, 2, 3, 4}}},
		{"the ends of 40", matrixOf(40, [2]int{0, 39}), append([][]int{{0, 39}}, forty[1:39]...)},
	} {
		if got := Parts(c.m.graph()); !sameParts(got, c.want) {
			t.Errorf("%s: %v", c.name, got)
		}
	}
}

func TestPartsOfAllSmallOnes(t *testing.T) {
	for _, m := range append(smallGraphs(5), path(40)) {
		if got := Parts(m.graph()); !sameParts(got, m.parts()) {
			t.Fatalf("%v: %v", m.graph(), got)
		}
	}
}
