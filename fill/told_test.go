package fill

import (
	"slices"
	"testing"

	"arborist/api"
	"arborist/graph"
	"arborist/order"
)

// model is who is beside whom, both ways round, so that orders are told anew without bits.
type model [][]bool

func modelOf(n int, list ...[2]int) model {
	m := make(model, n)
	for i := range m {
		m[i] = make([]bool, n)
	}
	for _, e := range list {
		m.join(e[0], e[1])
	}
	return m
}

// join is as it was, if both are the same.
func (m model) join(a, b int) {
	if a != b {
		m[a][b], m[b][a] = true, true
	}
}

func (m model) part(a, b int) { m[a][b], m[b][a] = false, false }

// and answers the same with more points, none of them beside any.
func (m model) and(more int) model {
	out := modelOf(len(m) + more)
	for i := range m {
		copy(out[i], m[i])
	}
	return out
}

// withBags answers the same with all of each bag beside each other.
func (m model) withBags(bags [][]int) model {
	out := m.and(0)
	for _, bag := range bags {
		for _, a := range bag {
			for _, b := range bag {
				out.join(a, b)
			}
		}
	}
	return out
}

func (m model) graph() api.Graph {
	g := graph.New(len(m))
	for a := range m {
		for b := range a {
			if m[a][b] {
				g = graph.Join(g, a, b)
			}
		}
	}
	return g
}

func path(n int) model {
	m := modelOf(n)
	for i := 1; i < n; i++ {
		m.join(i-1, i)
	}
	return m
}

func ring(n int) model {
	m := path(n)
	m.join(n-1, 0)
	return m
}

func clique(n int) model { return modelOf(n).withBags([][]int{counting(n)}) }

// counting answers 0 .. n - 1.
func counting(n int) []int {
	out := make([]int, n)
	for i := range out {
		out[i] = i
	}
	return out
}

func sameRows(a, b [][]int) bool { return slices.EqualFunc(a, b, slices.Equal) }

// bagAt tells a bag anew, without joining anything: its point has beside it, when it goes, just those later ones to which a path leads by way of points that went ahead of it.
func (m model) bagAt(order []int, at int) []int {
	bag, todo, seen := []int{order[at]}, []int{order[at]}, make([]bool, len(m))
	seen[order[at]] = true
	for len(todo) > 0 {
		a := todo[0]
		todo = todo[1:]
		for place, b := range order {
			if !m[a][b] || seen[b] {
				continue
			}
			seen[b] = true
			if place < at {
				todo = append(todo, b)
			} else {
				bag = append(bag, b)
			}
		}
	}
	slices.Sort(bag)
	return bag
}

func (m model) bags(order []int) [][]int {
	var out [][]int
	for at := range order {
		out = append(out, m.bagAt(order, at))
	}
	return out
}

// toldFilled joins each point with all of its bag, and nothing else: all else of a bag is joined by a later one.
func (m model) toldFilled(order []int) model {
	out := m.and(0)
	for at, bag := range m.bags(order) {
		for _, b := range bag {
			out.join(order[at], b)
		}
	}
	return out
}

// checkTold holds all that an order answers against what is told anew, and asks what follows; it answers whether nothing was joined.
func checkTold(t *testing.T, m model, l []int) bool {
	t.Helper()
	g, want := m.graph(), m.toldFilled(l).graph()
	f, e := Filled(g, l)
	if e != api.OK || !slices.Equal(f.Adj, want.Adj) || !graph.Right(f) {
		t.Fatalf("%v by %v: filled %v %v, not %v", g, l, f, e, want)
	}
	bags, most := m.bags(l), 0
	for _, bag := range bags {
		most = max(most, len(bag))
	}
	if got, e := Bags(g, l); e != api.OK || !sameRows(got, bags) {
		t.Fatalf("%v by %v: bags %v %v, not %v", g, l, got, e, bags)
	}
	if w, e := Width(g, l); e != api.OK || w != most-1 {
		t.Fatalf("%v by %v: width %d %v, not %d", g, l, w, e, most-1)
	}
	if again, e := Filled(f, l); e != api.OK || !slices.Equal(again.Adj, f.Adj) {
		t.Fatalf("%v by %v: filled %v, then %v %v", g, l, f, again, e)
	}
	if got, e := Bags(f, l); e != api.OK || !sameRows(got, bags) {
		t.Fatalf("%v by %v: bags of the filled %v %v, not %v", g, l, got, e, bags)
	}
	for a := range f.Adj {
		if g.Adj[a]&^f.Adj[a] != 0 {
			t.Fatalf("%v by %v: %v has less", g, l, f)
		}
	}
	return slices.Equal(f.Adj, g.Adj)
}

// smallOnes are all graphs of up to most points.
func smallOnes(most int) []model {
	var out []model
	for n := range most + 1 {
		for set := range 1 << (n * (n - 1) / 2) {
			m := modelOf(n)
			for a := range n {
				for b := range a {
					if set>>(a*(a-1)/2+b)&1 == 1 {
						m.join(a, b)
					}
				}
			}
			out = append(out, m)
		}
	}
	return out
}

// orders are all orders of n points.
func orders(n int) [][]int {
	if n == 0 {
		return [][]int{nil}
	}
	var out [][]int
	for _, l := range orders(n - 1) {
		for at := range n {
			out = append(out, slices.Insert(slices.Clone(l), at, n-1))
		}
	}
	return out
}

// All orders of small graphs, and a graph is chordal just if one of them joins nothing.
func TestAllSmallOnes(t *testing.T) {
	some, others := 0, 0
	for _, m := range smallOnes(5) {
		want := false
		for _, l := range orders(len(m)) {
			want = checkTold(t, m, l) || want
		}
		if got := Chordal(m.graph()); got != want {
			t.Fatalf("%v: chordal %v", m.graph(), got)
		}
		if want {
			some++
		} else {
			others++
		}
	}
	if some == 0 || others == 0 {
		t.Error(some, others)
	}
}

// isRing asks of some points whether they are a ring, with no others beside each other: each has two, and they hang together.
func (m model) isRing(l []int) bool {
	for _, a := range l {
		two := 0
		for _, b := range l {
			if m[a][b] {
				two++
			}
		}
		if two != 2 {
			return false
		}
	}
	before, at := l[0], slices.IndexFunc(l, func(b int) bool { return m[l[0]][b] })
	long := 1
	for now := l[at]; now != l[0]; long++ {
		next := slices.IndexFunc(l, func(b int) bool { return m[now][b] && b != before })
		before, now = now, l[next]
	}
	return long == len(l)
}

// hasRing asks for a ring of four points or more without a short cut, which is just what graphs have that are not chordal.
func (m model) hasRing() bool {
	for set := range 1 << len(m) {
		var l []int
		for a := range m {
			if set>>a&1 == 1 {
				l = append(l, a)
			}
		}
		if len(l) >= 4 && m.isRing(l) {
			return true
		}
	}
	return false
}

func TestChordalHasNoRing(t *testing.T) {
	for _, m := range smallOnes(6) {
		if got := Chordal(m.graph()); got == m.hasRing() {
			t.Fatalf("%v: chordal %v", m.graph(), got)
		}
	}
}

// greatOnes are graphs of up to 40 points, of few edges and of many.
func greatOnes() []model {
	var out []model
	for _, n := range []int{12, 23, 39, 40} {
		for seed := range 5 {
			for _, dense := range []int{1, 3, 6, 10} {
				m := modelOf(n)
				for a := range n {
					for b := range a {
						if (a*b*(seed+1)+b*b+(a+seed)*a*a)%13 < dense {
							m.join(a, b)
						}
					}
				}
				out = append(out, m)
			}
		}
	}
	return out
}

// turned is an order in which the points stand far from where they are by number; the turn has no divisor but 1 in common with n.
func turned(n, turn int) []int {
	out := counting(n)
	for i := range out {
		out[i] = i * turn % n
	}
	return out
}

func TestGreatOnes(t *testing.T) {
	for _, m := range greatOnes() {
		n, g := len(m), m.graph()
		down := counting(n)
		slices.Reverse(down)
		lists := [][]int{counting(n), down, turned(n, 7), turned(n, 11)}
		for _, how := range []int{order.Fill, order.Degree, order.Card} {
			l, _ := order.Of(g, how)
			lists = append(lists, l)
		}
		for _, l := range lists {
			none := checkTold(t, m, l)
			if none && !Chordal(g) {
				t.Fatalf("%v by %v: nothing is joined", g, l)
			}
			if f, _ := Filled(g, l); !Chordal(f) {
				t.Fatalf("%v by %v: %v is not chordal", g, l, f)
			}
		}
	}
}

// layered is a graph in which each point comes beside some, as many as wide at most, that are all beside each other, so that the other way round nothing is joined; turn gives the points other numbers.
func layered(n, turn, wide int) model {
	m, number := modelOf(n), turned(n, turn)
	for i := range n {
		var beside []int
		for k := range i {
			b := number[(i*turn+3*k)%i]
			fits := !slices.ContainsFunc(beside, func(c int) bool { return c == b || !m[b][c] })
			if len(beside) < wide && fits {
				beside = append(beside, b)
			}
		}
		for _, b := range beside {
			m.join(number[i], b)
		}
	}
	return m
}

// A ring spoils it, be it apart, or all of it beside one point.
func TestChordalOfGreatOnes(t *testing.T) {
	for _, turn := range []int{1, 5, 7, 11, 13, 17, 19, 23, 25, 29, 31, 35} {
		for wide := range 7 {
			m := layered(36, turn, wide)
			checkChordal(t, "layers", m, true)
			m = m.and(4)
			for i := range 4 {
				m.join(36+i, 36+(i+1)%4)
			}
			checkChordal(t, "layers and a ring", m, false)
			for i := range 4 {
				m.join(turn, 36+i)
			}
			checkChordal(t, "layers with a ring", m, false)
			m.join(36, 38)
			checkChordal(t, "layers with a ring that has a short cut", m, true)
		}
	}
}
