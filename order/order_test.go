package order

import (
	"math"
	"slices"
	"testing"

	"arborist/api"
	"arborist/graph"
)

func TestWaysAreCounted(t *testing.T) {
	if Fill != 1 || Degree != 2 || Card != 3 {
		t.Error(Fill, Degree, Card)
	}
}

func TestOfNoWay(t *testing.T) {
	graphs := []api.Graph{{}, {Adj: []uint64{}}, graph.New(1), graph.New(40), graphOf(3, [2]int{0, 1}, [2]int{1, 2})}
	for _, g := range graphs {
		for _, how := range []int{0, 4, -1, -2, 5, 257, 1 << 32, 1<<32 + 1, math.MaxInt, math.MinInt} {
			if l, e := Of(g, how); e != api.ErrArg || len(l) != 0 {
				t.Errorf("%d points, way %d: %v %v", len(g.Adj), how, l, e)
			}
		}
	}
}

// check holds an order by one way against what was worked out by hand.
func check(t *testing.T, name string, g api.Graph, how int, want ...int) {
	t.Helper()
	got, e := Of(g, how)
	if e != api.OK || !slices.Equal(got, want) || !Valid(len(g.Adj), got) {
		t.Errorf("%s, way %d: %v %v, not %v", name, how, got, e, want)
	}
}

func TestOfFewPoints(t *testing.T) {
	for _, how := range ways() {
		check(t, "no points", api.Graph{}, how)
		check(t, "no points, none beside any", graph.New(0), how)
		check(t, "one point", graph.New(1), how, 0)
	}
}

// Where all are as good as each other the least goes, and the least is chosen.
func TestOfPointsAsGoodAsEachOther(t *testing.T) {
	ring := graphOf(4, [2]int{0, 1}, [2]int{1, 2}, [2]int{2, 3}, [2]int{3, 0})
	for _, how := range []int{Fill, Degree} {
		check(t, "none beside any", graph.New(3), how, 0, 1, 2)
		check(t, "two", graphOf(2, [2]int{0, 1}), how, 0, 1)
		check(t, "a ring", ring, how, 0, 1, 2, 3)
		check(t, "all beside all", graphOf(4, allPairs(counting(4))...), how, 0, 1, 2, 3)
	}
	check(t, "none beside any", graph.New(3), Card, 2, 1, 0)
	check(t, "two", graphOf(2, [2]int{0, 1}), Card, 1, 0)
	check(t, "a ring", ring, Card, 3, 2, 1, 0)
	check(t, "all beside all", graphOf(4, allPairs(counting(4))...), Card, 3, 2, 1, 0)
}

// 0 joins 2 and 3: but for that 2 would go ahead of 1.
func TestWhatIsJoinedCounts(t *testing.T) {
	ring := graphOf(4, [2]int{0, 2}, [2]int{2, 1}, [2]int{1, 3}, [2]int{3, 0})
	check(t, "a ring", ring, Fill, 0, 1, 2, 3)
	check(t, "a ring", ring, Degree, 0, 1, 2, 3)
}

// 1 goes first: but for its being beside none any more 2 would go ahead of 0.
func TestWhoGoesIsBesideNone(t *testing.T) {
	three := graphOf(3, [2]int{0, 1}, [2]int{0, 2})
	check(t, "three", three, Fill, 1, 0, 2)
	check(t, "three", three, Degree, 1, 0, 2)
}

// In a clique each point has many beside it, but none of them apart.
func TestFillIsNotDegree(t *testing.T) {
	g := graphOf(6, append(allPairs(counting(4)), [2]int{3, 4}, [2]int{4, 5})...)
	check(t, "a clique with a tail", g, Fill, 0, 1, 2, 3, 4, 5)
	check(t, "a clique with a tail", g, Degree, 5, 4, 0, 1, 2, 3)
	check(t, "a clique with a tail", g, Card, 5, 4, 3, 2, 1, 0)
}

// Of a star the centre goes once one point is left beside it.
func TestOfStars(t *testing.T) {
	star := graphOf(5, [2]int{2, 0}, [2]int{2, 1}, [2]int{2, 3}, [2]int{2, 4})
	check(t, "a star", star, Fill, 0, 1, 3, 2, 4)
	check(t, "a star", star, Degree, 0, 1, 3, 2, 4)
	check(t, "a star", star, Card, 4, 3, 1, 2, 0)
}

// By Card 3 and 2 are chosen ahead of 1, which has none of the chosen beside it.
func TestCardIsTheOtherWayRound(t *testing.T) {
	check(t, "a path and a point", graphOf(4, [2]int{0, 3}, [2]int{3, 2}), Card, 1, 2, 3, 0)
	check(t, "a path", graphOf(4, [2]int{0, 2}, [2]int{2, 3}, [2]int{3, 1}), Card, 1, 3, 2, 0)
}

// By Card the chosen count, not all that are beside a point: 1 has most of all beside it, but 2 and 3 are chosen ahead of it.
func TestCardCountsTheChosen(t *testing.T) {
	g := graphOf(6, [2]int{0, 2}, [2]int{2, 3}, [2]int{3, 1}, [2]int{1, 4}, [2]int{1, 5})
	check(t, "a star with a tail", g, Card, 5, 4, 1, 3, 2, 0)
	h := graphOf(4, [2]int{0, 1}, [2]int{0, 2}, [2]int{0, 3}, [2]int{1, 3})
	check(t, "a triangle, and one beside", h, Card, 2, 3, 1, 0)
}

func TestOf40Points(t *testing.T) {
	up, ends := counting(40), graphOf(40, [2]int{0, 39})
	var path, star [][2]int
	for i := range 39 {
		path, star = append(path, [2]int{i, i + 1}), append(star, [2]int{i, 39})
	}
	for name, list := range map[string][][2]int{"none": nil, "a path": path, "all": allPairs(up)} {
		check(t, name, graphOf(40, list...), Fill, up...)
		check(t, name, graphOf(40, list...), Degree, up...)
		check(t, name, graphOf(40, list...), Card, down(40)...)
	}
	endsChosen := append(down(39)[:38], 39, 0)
	check(t, "a star", graphOf(40, star...), Fill, up...)
	check(t, "a star", graphOf(40, star...), Degree, up...)
	check(t, "a star", graphOf(40, star...), Card, endsChosen...)
	check(t, "the ends", ends, Fill, up...)
	check(t, "the ends", ends, Degree, append(counting(39)[1:], 0, 39)...)
	check(t, "the ends", ends, Card, endsChosen...)
}
