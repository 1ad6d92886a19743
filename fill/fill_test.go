package fill

import (
	"math"
	"slices"
	"testing"

	"arborist/api"
)

// check holds all that an order answers against bags that were worked out by hand; each point's bag tells what it is joined with.
func check(t *testing.T, name string, m model, order []int, bags ...[]int) {
	t.Helper()
	got, e := Bags(m.graph(), order)
	if e != api.OK || !sameRows(got, bags) {
		t.Errorf("%s by %v: bags %v %v, not %v", name, order, got, e, bags)
	}
	want, most := m.withBags(bags).graph(), 0
	for _, bag := range bags {
		most = max(most, len(bag))
	}
	if f, e := Filled(m.graph(), order); e != api.OK || !slices.Equal(f.Adj, want.Adj) {
		t.Errorf("%s by %v: filled %v %v, not %v", name, order, f, e, want)
	}
	if w, e := Width(m.graph(), order); e != api.OK || w != most-1 {
		t.Errorf("%s by %v: width %d %v, not %d", name, order, w, e, most-1)
	}
}

func TestNoPoints(t *testing.T) {
	for _, g := range []api.Graph{{}, {Adj: []uint64{}}} {
		for _, order := range [][]int{nil, {}} {
			if f, e := Filled(g, order); e != api.OK || len(f.Adj) != 0 {
				t.Error("filled", f, e)
			}
			if l, e := Bags(g, order); e != api.OK || len(l) != 0 {
				t.Error("bags", l, e)
			}
			if w, e := Width(g, order); e != api.OK || w != -1 {
				t.Error("width", w, e)
			}
		}
	}
}

func TestFewPoints(t *testing.T) {
	check(t, "one point", modelOf(1), []int{0}, []int{0})
	check(t, "two points", modelOf(2), []int{1, 0}, []int{1}, []int{0})
	check(t, "two beside each other", path(2), []int{0, 1}, []int{0, 1}, []int{1})
	check(t, "two beside each other", path(2), []int{1, 0}, []int{0, 1}, []int{0})
}

func TestNoneAndAllBeside(t *testing.T) {
	check(t, "none beside any", modelOf(3), []int{2, 0, 1}, []int{2}, []int{0}, []int{1})
	check(t, "all beside all", clique(4), []int{2, 0, 3, 1}, []int{0, 1, 2, 3}, []int{0, 1, 3}, []int{1, 3}, []int{1})
}

func TestRing(t *testing.T) {
	check(t, "a ring", ring(4), []int{0, 1, 2, 3}, []int{0, 1, 3}, []int{1, 2, 3}, []int{2, 3}, []int{3})
	check(t, "a ring", ring(4), []int{0, 2, 1, 3}, []int{0, 1, 3}, []int{1, 2, 3}, []int{1, 3}, []int{3})
	check(t, "a ring", ring(4), []int{2, 0, 1, 3}, []int{1, 2, 3}, []int{0, 1, 3}, []int{1, 3}, []int{3})
}

// As 0 goes 4 comes beside 1, and so beside 2 as 1 goes.
func TestWhatIsJoinedCounts(t *testing.T) {
	check(t, "a ring", ring(5), []int{0, 1, 2, 3, 4}, []int{0, 1, 4}, []int{1, 2, 4}, []int{2, 3, 4}, []int{3, 4}, []int{4})
	check(t, "a path", path(5), []int{1, 2, 3, 0, 4}, []int{0, 1, 2}, []int{0, 2, 3}, []int{0, 3, 4}, []int{0, 4}, []int{4})
}

// 1 is in no bag but its own, though the filled graph keeps it beside 0 and 2.
func TestWhoGoesIsBesideNone(t *testing.T) {
	check(t, "a path", path(3), []int{1, 0, 2}, []int{0, 1, 2}, []int{0, 2}, []int{2})
	check(t, "a path", path(3), []int{1, 2, 0}, []int{0, 1, 2}, []int{0, 2}, []int{0})
	check(t, "a path", path(3), []int{2, 1, 0}, []int{1, 2}, []int{0, 1}, []int{0})
}

func TestStars(t *testing.T) {
	star := modelOf(4, [2]int{1, 0}, [2]int{1, 2}, [2]int{1, 3})
	check(t, "a star, its centre first", star, []int{1, 3, 0, 2}, []int{0, 1, 2, 3}, []int{0, 2, 3}, []int{0, 2}, []int{2})
	check(t, "a star, its centre last", star, []int{3, 0, 2, 1}, []int{1, 3}, []int{0, 1}, []int{1, 2}, []int{1})
	check(t, "a star, its centre amidst", star, []int{0, 1, 2, 3}, []int{0, 1}, []int{1, 2, 3}, []int{2, 3}, []int{3})
}

func TestParts(t *testing.T) {
	m := modelOf(5, [2]int{0, 3}, [2]int{3, 4})
	check(t, "two parts, and a point", m, []int{3, 2, 0, 1, 4}, []int{0, 3, 4}, []int{2}, []int{0, 4}, []int{1}, []int{4})
}

func Test40Points(t *testing.T) {
	up := counting(40)
	var alone, paths, rings, all [][]int
	for i := range 40 {
		alone = append(alone, []int{i})
		paths = append(paths, up[i:min(i+2, 40)])
		all = append(all, up[i:])
		if i < 38 {
			rings = append(rings, []int{i, i + 1, 39})
		}
	}
	rings = append(rings, []int{38, 39}, []int{39})
	check(t, "none", modelOf(40), up, alone...)
	check(t, "a path", path(40), up, paths...)
	check(t, "a ring", ring(40), up, rings...)
	check(t, "all", clique(40), up, all...)
	star := modelOf(40)
	for i := range 39 {
		star.join(39, i)
	}
	stars := [][]int{up}
	for i := range 39 {
		stars = append(stars, up[i:39])
	}
	check(t, "a star", star, append([]int{39}, counting(39)...), stars...)
}

// Of a grid that goes row by row each bag has a point and the next of as many as a row has.
func TestWidthOfGrids(t *testing.T) {
	for wide := 2; wide <= 6; wide++ {
		m := modelOf(wide * wide)
		for i := range len(m) {
			if i+wide < len(m) {
				m.join(i, i+wide)
			}
			if i%wide > 0 {
				m.join(i, i-1)
			}
		}
		if w, e := Width(m.graph(), counting(len(m))); w != wide || e != api.OK {
			t.Errorf("%d wide: %d %v", wide, w, e)
		}
	}
}

func checkNoOrder(t *testing.T, g api.Graph, order []int) {
	t.Helper()
	if f, e := Filled(g, order); e != api.ErrOrder || len(f.Adj) != 0 {
		t.Errorf("%d points by %v: filled %v %v", len(g.Adj), order, f, e)
	}
	if l, e := Bags(g, order); e != api.ErrOrder || len(l) != 0 {
		t.Errorf("%d points by %v: bags %v %v", len(g.Adj), order, l, e)
	}
	if w, e := Width(g, order); e != api.ErrOrder || w != 0 {
		t.Errorf("%d points by %v: width %d %v", len(g.Adj), order, w, e)
	}
}

func TestNoOrder(t *testing.T) {
	for _, m := range []model{modelOf(4), ring(4), clique(4), path(4)} {
		for _, order := range [][]int{
			nil, {}, {0}, {0, 1, 2}, {1, 2, 3}, {0, 1, 2, 3, 4}, {0, 1, 2, 3, 3}, {0, 1, 2, 3, 0, 1, 2, 3},
			{0, 1, 2, 2}, {0, 0, 1, 2}, {3, 1, 2, 3}, {-1, 0, 1, 2}, {0, 1, 2, -1}, {4, 0, 1, 2}, {0, 1, 2, 4}, {1, 2, 3, 4},
			{0, 1, 2, 64}, {0, 1, 2, 67}, {0, 1, 2, math.MaxInt}, {math.MinInt, 1, 2, 3},
		} {
			checkNoOrder(t, m.graph(), order)
		}
	}
	for _, order := range [][]int{{0}, {-1}, {1}, {0, 1}} {
		checkNoOrder(t, api.Graph{}, order)
	}
	for _, order := range [][]int{nil, {1}, {-1}, {0, 0}, {0, 1}} {
		checkNoOrder(t, modelOf(1).graph(), order)
	}
	twice := counting(40)
	twice[39] = 0
	for _, order := range [][]int{twice, counting(39), counting(41), counting(41)[1:]} {
		checkNoOrder(t, ring(40).graph(), order)
	}
}

func checkChordal(t *testing.T, name string, m model, want bool) {
	t.Helper()
	if got := Chordal(m.graph()); got != want {
		t.Errorf("%s of %d points: %v", name, len(m), got)
	}
}

func TestChordalOfRings(t *testing.T) {
	for n := 3; n <= 40; n++ {
		checkChordal(t, "a ring", ring(n), n == 3)
		if n == 40 {
			break
		}
		apart, last, first := ring(n).and(1), ring(n).and(1), modelOf(n+1)
		for i := range n {
			last.join(i, n)
			first.join(0, i+1)
			first.join(i+1, (i+1)%n+1)
		}
		checkChordal(t, "a ring and a point", apart, n == 3)
		checkChordal(t, "a ring beside the last", last, n == 3)
		checkChordal(t, "a ring beside the first", first, n == 3)
	}
}

// Where one point of a ring is beside all others no ring of four is left without a short cut; but one is, where it is parted from one of them.
func TestChordalOfRingsWithin(t *testing.T) {
	for n := 4; n <= 40; n++ {
		for hub := range n {
			m := ring(n)
			for i := range n {
				m.join(hub, i)
			}
			checkChordal(t, "a fan", m, true)
			m.part(hub, (hub+2)%n)
			checkChordal(t, "a fan with a gap", m, false)
		}
	}
}

func TestChordalWithoutRings(t *testing.T) {
	checkChordal(t, "no points", modelOf(0), true)
	for n := range 41 {
		checkChordal(t, "none beside any", modelOf(n), true)
		checkChordal(t, "all beside all", clique(n), true)
		checkChordal(t, "a path", path(n), true)
		star, tree := modelOf(n), modelOf(n)
		for i := 1; i < n; i++ {
			star.join(0, i)
			tree.join(i, (i-1)/2)
		}
		checkChordal(t, "a star", star, true)
		checkChordal(t, "a tree", tree, true)
	}
}

// The point between has the fewest beside it, but as it goes first it joins them.
func TestChordalOfCliquesHeldTogether(t *testing.T) {
	m := modelOf(9).withBags([][]int{{0, 1, 2, 3}, {5, 6, 7, 8}, {3, 4}, {4, 5}})
	checkChordal(t, "two cliques and a point between", m, true)
	m.join(0, 8)
	checkChordal(t, "two cliques held together twice", m, false)
}
