package order

import (
	"slices"
	"testing"

	"arborist/api"
	"arborist/graph"
)

// edges says of a graph who is beside whom, both ways round, so that orders are told anew without its bits.
type edges map[[2]int]bool

func edgesOf(list [][2]int) edges {
	out := edges{}
	for _, e := range list {
		out.join(e[0], e[1])
	}
	return out
}

func (e edges) join(a, b int) { e[[2]int{a, b}], e[[2]int{b, a}] = true, true }

// among answers those of a list that are beside a.
func (e edges) among(l []int, a int) []int {
	return slices.DeleteFunc(slices.Clone(l), func(b int) bool { return !e[[2]int{a, b}] })
}

// apart answers the pairs of a list that are not beside each other.
func (e edges) apart(l []int) [][2]int {
	return slices.DeleteFunc(allPairs(l), func(p [2]int) bool { return e[p] })
}

// joins counts what is joined as points go in this order.
func (e edges) joins(order []int) int {
	now, n := edges{}, 0
	for p := range e {
		now[p] = true
	}
	for i, a := range order {
		for _, p := range now.apart(now.among(order[i+1:], a)) {
			now.join(p[0], p[1])
			n++
		}
	}
	return n
}

// allPairs are all pairs of a list, each once.
func allPairs(l []int) [][2]int {
	var out [][2]int
	for i, a := range l {
		for _, b := range l[i+1:] {
			out = append(out, [2]int{a, b})
		}
	}
	return out
}

// told tells anew what I1 says of an order's way.
func told(n int, list [][2]int, how int) []int {
	if how == Card {
		return toldByCard(n, edgesOf(list))
	}
	e, left, out := edgesOf(list), counting(n), []int(nil)
	for len(left) > 0 {
		var worths []int
		for _, a := range left {
			beside := e.among(left, a)
			if how == Fill {
				worths = append(worths, len(e.apart(beside)))
			} else {
				worths = append(worths, len(beside))
			}
		}
		at := slices.Index(worths, slices.Min(worths))
		a := left[at]
		left, out = slices.Delete(left, at, at+1), append(out, a)
		for _, p := range allPairs(e.among(left, a)) {
			e.join(p[0], p[1])
		}
	}
	return out
}

func toldByCard(n int, e edges) []int {
	left, chosen := counting(n), []int(nil)
	for len(left) > 0 {
		var worths []int
		for _, a := range left {
			worths = append(worths, len(e.among(chosen, a)))
		}
		at := slices.Index(worths, slices.Max(worths))
		chosen = append(chosen, left[at])
		left = slices.Delete(left, at, at+1)
	}
	slices.Reverse(chosen)
	return chosen
}

func graphOf(n int, list ...[2]int) api.Graph {
	g := graph.New(n)
	for _, e := range list {
		g = graph.Join(g, e[0], e[1])
	}
	return g
}

// sample is a graph of n points.
type sample struct {
	n    int
	list [][2]int
}

func (s sample) graph() api.Graph { return graphOf(s.n, s.list...) }

// smallOnes are all graphs of up to most points.
func smallOnes(most int) []sample {
	var out []sample
	for n := range most + 1 {
		all := allPairs(counting(n))
		for set := range 1 << len(all) {
			s := sample{n: n}
			for i, e := range all {
				if set>>i&1 == 1 {
					s.list = append(s.list, e)
				}
			}
			out = append(out, s)
		}
	}
	return out
}

// greatOnes are graphs of up to 40 points, of few edges and of many.
func greatOnes() []sample {
	var out []sample
	for _, n := range []int{12, 23, 39, 40} {
		for seed := range 9 {
			for _, dense := range []int{1, 3, 6, 10} {
				s := sample{n: n}
				for _, e := range allPairs(counting(n)) {
					if (e[0]*e[1]*(seed+1)+e[0]*e[0]+(e[1]+seed)*e[1]*e[1])%13 < dense {
						s.list = append(s.list, e)
					}
				}
				out = append(out, s)
			}
		}
	}
	return out
}

func ways() []int { return []int{Fill, Degree, Card} }

func checkTold(t *testing.T, s sample) {
	t.Helper()
	g := s.graph()
	for _, how := range ways() {
		want := told(s.n, s.list, how)
		for range 2 {
			got, e := Of(g, how)
			if e != api.OK || !slices.Equal(got, want) || !Valid(s.n, got) {
				t.Fatalf("way %d, %d points, %v: %v %v, not %v", how, s.n, s.list, got, e, want)
			}
		}
	}
}

func TestOfAllSmallOnes(t *testing.T) {
	for _, s := range smallOnes(6) {
		checkTold(t, s)
	}
}

func TestOfGreatOnes(t *testing.T) {
	for _, s := range greatOnes() {
		checkTold(t, s)
	}
}

// joinsNothing asks whether any order of the points that are left joins nothing: each of them goes where all beside it are joined.
func joinsNothing(e edges, left []int) bool {
	if len(left) == 0 {
		return true
	}
	for i, a := range left {
		rest := slices.Delete(slices.Clone(left), i, i+1)
		if len(e.apart(e.among(rest, a))) == 0 && joinsNothing(e, rest) {
			return true
		}
	}
	return false
}

func TestCardJoinsNothingWhereAnOrderDoes(t *testing.T) {
	some, others := 0, 0
	for _, s := range smallOnes(5) {
		e := edgesOf(s.list)
		order, _ := Of(s.graph(), Card)
		want := joinsNothing(e, counting(s.n))
		if got := e.joins(order) == 0; got != want {
			t.Fatalf("%d points, %v: %v joins %d", s.n, s.list, order, e.joins(order))
		}
		if want {
			some++
		} else {
			others++
		}
	}
	if some == 0 || others == 0 {
		t.Error(some, others)
	}
}

// layered is a graph of 40 points in which each comes beside some, as many as wide at most, that are all beside each other, so that the other way round nothing is joined; turn gives the points other numbers.
func layered(turn, wide int) sample {
	e, s := edges{}, sample{n: 40}
	for i := range s.n {
		var beside []int
		for k := range i {
			b := (i*turn + 3*k) % i
			if len(beside) < wide && !slices.Contains(beside, b) && len(e.among(beside, b)) == len(beside) {
				beside = append(beside, b)
			}
		}
		for _, b := range beside {
			e.join(i, b)
			s.list = append(s.list, [2]int{i * turn % s.n, b * turn % s.n})
		}
	}
	return s
}

func TestCardJoinsNothingOfGreatOnes(t *testing.T) {
	for _, turn := range []int{1, 3, 7, 9, 11, 13, 17, 19, 21, 23, 27, 29, 31, 33, 37, 39} {
		for wide := range 7 {
			s := layered(turn, wide)
			order, _ := Of(s.graph(), Card)
			if n := edgesOf(s.list).joins(order); n != 0 || !Valid(s.n, order) {
				t.Fatalf("turn %d, %d wide: %v joins %d", turn, wide, order, n)
			}
		}
	}
}
