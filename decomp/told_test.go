package decomp

import (
	"slices"
	"testing"

	"arborist/api"
	"arborist/fill"
	"arborist/graph"
	"arborist/order"
)

// model is who is beside whom, both ways round, so that trees are told anew without bits.
type model [][]bool

func modelOf(n int, list ...[2]int) model {
	m := make(model, n)
	for i := range m {
		m[i] = make([]bool, n)
	}
	for _, e := range list {
		m.join(e[0], e[1])
	}
	return m
}

// join is as it was, if both are the same.
func (m model) join(a, b int) {
	if a != b {
		m[a][b], m[b][a] = true, true
	}
}

// and answers the same with more points, none of them beside any.
func (m model) and(more int) model {
	out := modelOf(len(m) + more)
	for i := range m {
		copy(out[i], m[i])
	}
	return out
}

func (m model) graph() api.Graph {
	g := graph.New(len(m))
	for a := range m {
		for b := range a {
			if m[a][b] {
				g = graph.Join(g, a, b)
			}
		}
	}
	return g
}

func path(n int) model {
	m := modelOf(n)
	for i := 1; i < n; i++ {
		m.join(i-1, i)
	}
	return m
}

func ring(n int) model {
	m := path(n)
	m.join(n-1, 0)
	return m
}

// star has all others beside the point 0.
func star(n int) model {
	m := modelOf(n)
	for i := range n {
		m.join(0, i)
	}
	return m
}

func clique(n int) model {
	m := modelOf(n)
	for a := range n {
		for b := range a {
			m.join(a, b)
		}
	}
	return m
}

// counting answers 0 .. n - 1.
func counting(n int) []int {
	out := make([]int, n)
	for i := range out {
		out[i] = i
	}
	return out
}

func sameRows(a, b [][]int) bool { return slices.EqualFunc(a, b, slices.Equal) }

// bagAt tells a bag anew, without joining anything: its point has beside it, when it goes, just those later ones to which a path leads by way of points that went ahead of it.
func (m model) bagAt(order []int, at int) []int {
	bag, todo, seen := []int{order[at]}, []int{order[at]}, make([]bool, len(m))
	seen[order[at]] = true
	for len(todo) > 0 {
		a := todo[0]
		todo = todo[1:]
		for place, b := range order {
			if !m[a][b] || seen[b] {
				continue
			}
			seen[b] = true
			if place < at {
				todo = append(todo, b)
			} else {
				bag = append(bag, b)
			}
		}
	}
	slices.Sort(bag)
	return bag
}

// shared counts the numbers of one row that are in another.
func shared(a, b []int) int {
	n := 0
	for _, x := range a {
		if slices.Contains(b, x) {
			n++
		}
	}
	return n
}

// toldBags holds each of an order's bags against all that are ahead of it.
func (m model) toldBags(order []int) [][]int {
	var all, out [][]int
	for at := range order {
		bag := m.bagAt(order, at)
		if !slices.ContainsFunc(all, func(ahead []int) bool { return shared(bag, ahead) == len(bag) }) {
			out = append(out, bag)
		}
		all = append(all, bag)
	}
	return out
}

// toldParents goes each time through all pairs, in the order of their places.
func toldParents(bags [][]int) []int {
	parent, in := make([]int, len(bags)), make([]bool, len(bags))
	for came := range bags {
		most, child, at := -1, 0, -1
		for i := range bags {
			for k := range bags {
				if came > 0 && !in[i] && in[k] && shared(bags[i], bags[k]) > most {
					most, child, at = shared(bags[i], bags[k]), i, k
				}
			}
		}
		parent[child], in[child] = at, true
	}
	return parent
}

// checkTold holds a tree against what is told anew, asks what follows, and whether it is the same again.
func checkTold(t *testing.T, m model, l []int) api.Tree {
	t.Helper()
	g, wanted := m.graph(), m.toldBags(l)
	parent := toldParents(wanted)
	for range 2 {
		got, e := Build(g, l)
		if e != api.OK || !sameRows(got.Bags, wanted) || !slices.Equal(got.Parent, parent) {
			t.Fatalf("%v by %v: %v %v, not %v %v", g, l, got, e, wanted, parent)
		}
		checkFollows(t, m, l, got)
	}
	return api.Tree{Bags: wanted, Parent: parent}
}

// checkFollows asks what the chapter says of each tree, and that it is one.
func checkFollows(t *testing.T, m model, l []int, tree api.Tree) {
	t.Helper()
	checkRooted(t, tree)
	most := 0
	for i, b := range tree.Bags {
		most = max(most, len(b))
		for k, other := range tree.Bags {
			if i != k && shared(b, other) == len(b) {
				t.Fatalf("%v by %v: %v is within %v", m.graph(), l, b, other)
			}
		}
	}
	if w, e := fill.Width(m.graph(), l); e != api.OK || most != w+1 {
		t.Fatalf("%v by %v: width %d %v, but %v", m.graph(), l, w, e, tree)
	}
	for a := range m {
		if n := tops(tree, a); n != 1 {
			t.Fatalf("%v by %v: the bags of %d hang in %d pieces: %v", m.graph(), l, a, n, tree)
		}
		for b := range a {
			if m[a][b] && !slices.ContainsFunc(tree.Bags, func(bag []int) bool { return shared([]int{a, b}, bag) == 2 }) {
				t.Fatalf("%v by %v: %d and %d are in no bag of %v", m.graph(), l, a, b, tree)
			}
		}
	}
}

// checkRooted asks that just the first bag has no parent, and that parents lead to it from everywhere.
func checkRooted(t *testing.T, tree api.Tree) {
	t.Helper()
	if len(tree.Bags) != len(tree.Parent) {
		t.Fatalf("%v: %d parents", tree, len(tree.Parent))
	}
	for i, p := range tree.Parent {
		if (p == -1) != (i == 0) {
			t.Fatalf("%v: the parent of %d is %d", tree, i, p)
		}
		at := i
		for range tree.Parent {
			if at > 0 {
				at = tree.Parent[at]
			}
		}
		if at != 0 {
			t.Fatalf("%v: %d does not lead to the root", tree, i)
		}
	}
}

// tops counts the bags that have a point that their parent has not: as many as the pieces in which its bags hang.
func tops(tree api.Tree, point int) int {
	n := 0
	for i, b := range tree.Bags {
		p := tree.Parent[i]
		if slices.Contains(b, point) && (p < 0 || !slices.Contains(tree.Bags[p], point)) {
			n++
		}
	}
	return n
}

// smallOnes are all graphs of n points.
func smallOnes(n int) []model {
	var out []model
	for set := range 1 << (n * (n - 1) / 2) {
		m := modelOf(n)
		for a := range n {
			for b := range a {
				if set>>(a*(a-1)/2+b)&1 == 1 {
					m.join(a, b)
				}
			}
		}
		out = append(out, m)
	}
	return out
}

// orders are all orders of n points.
func orders(n int) [][]int {
	if n == 0 {
		return [][]int{nil}
	}
	var out [][]int
	for _, l := range orders(n - 1) {
		for at := range n {
			out = append(out, slices.Insert(slices.Clone(l), at, n-1))
		}
	}
	return out
}

func TestAllSmallOnes(t *testing.T) {
	for n := range 6 {
		for _, m := range smallOnes(n) {
			for _, l := range orders(n) {
				checkTold(t, m, l)
			}
		}
	}
}

// Some orders of each graph of six points, other ones each time.
func TestSixPoints(t *testing.T) {
	all := orders(6)
	for i, m := range smallOnes(6) {
		for k := range 2 {
			checkTold(t, m, all[(i*7+k*359)%len(all)])
		}
	}
}

// turned is an order in which the points stand far from where they are by number; the turn has no divisor but 1 in common with n.
func turned(n, turn int) []int {
	out := counting(n)
	for i := range out {
		out[i] = i * turn % n
	}
	return out
}

// someWays are orders of a graph, some that join little and some that join much.
func someWays(m model) [][]int {
	n := len(m)
	lists := [][]int{counting(n), turnedRound(counting(n)), turned(n, 7), turned(n, 11)}
	for _, how := range []int{order.Fill, order.Degree, order.Card} {
		l, _ := order.Of(m.graph(), how)
		lists = append(lists, l, turnedRound(l))
	}
	return lists
}

// scattered are graphs of up to 40 points, of few edges and of many.
func scattered() []model {
	var out []model
	for _, n := range []int{12, 23, 39, 40} {
		for seed := range 5 {
			for _, dense := range []int{1, 3, 6, 10} {
				m := modelOf(n)
				for a := range n {
					for b := range a {
						if (a*b*(seed+1)+b*b+(a+seed)*a*a)%13 < dense {
							m.join(a, b)
						}
					}
				}
				out = append(out, m)
			}
		}
	}
	return out
}

// branching is a graph in which each point comes beside as many as wide of those that came ahead of it (of one: a graph without rings); turn gives the points other numbers.
func branching(n, turn, wide int) model {
	m, number := modelOf(n), turned(n, turn)
	for i := 1; i < n; i++ {
		for k := range min(wide, i) {
			m.join(number[i], number[(i*turn/3+k)%i])
		}
	}
	return m
}

func TestGreatOnes(t *testing.T) {
	all := scattered()
	for _, turn := range []int{1, 3, 7, 9, 11, 13} {
		for wide := range 4 {
			all = append(all, branching(40, turn, wide), branching(34, turn, wide).and(6))
		}
	}
	for _, n := range []int{12, 39, 40} {
		all = append(all, modelOf(n), path(n), ring(n), star(n), clique(n))
	}
	greatest := 0
	for _, m := range all {
		for _, l := range someWays(m) {
			greatest = max(greatest, len(checkTold(t, m, l).Bags))
		}
	}
	if greatest != 40 {
		t.Error(greatest)
	}
}
