package built

import (
	"slices"
	"testing"

	"arborist/api"
)

func table(scope []int, rows ...[]int) api.Constraint {
	return api.Constraint{Kind: api.Table, Scope: scope, Rows: rows}
}

func forbid(scope []int, rows ...[]int) api.Constraint {
	return api.Constraint{Kind: api.Forbid, Scope: scope, Rows: rows}
}

func over(kind int, scope ...int) api.Constraint { return api.Constraint{Kind: kind, Scope: scope} }

// linear is over the variables 0, 1 .., as many as there are multipliers.
func linear(how, number int, multipliers ...int) api.Constraint {
	return api.Constraint{Kind: api.Linear, Scope: upTo(len(multipliers)), Args: append(slices.Clone(multipliers), how, number)}
}

func upTo(n int) []int {
	l := []int{}
	for i := range n {
		l = append(l, i)
	}
	return l
}

// rowsOf lists every row that has one value of each list, the less ones first.
func rowsOf(lists ...[]int) [][]int {
	rows := [][]int{{}}
	for _, l := range lists {
		longer := [][]int{}
		for _, t := range rows {
			for _, n := range l {
				longer = append(longer, append(slices.Clone(t), n))
			}
		}
		rows = longer
	}
	return rows
}

func hasRow(rows [][]int, t []int) bool {
	return slices.ContainsFunc(rows, func(u []int) bool { return slices.Equal(t, u) })
}

// subsets lists every choice of these rows; of many rows only some choices.
func subsets(rows [][]int) [][][]int {
	out := [][][]int{}
	step := 1
	if len(rows) > 4 {
		step = 7
	}
	for set := 0; set < 1<<len(rows); set += step {
		l := [][]int{}
		for i, t := range rows {
			if set>>i&1 == 1 {
				l = append(l, t)
			}
		}
		out = append(out, l)
	}
	return append(out, rows)
}

func kinds(t []int) int {
	l := slices.Clone(t)
	slices.Sort(l)
	return len(slices.Compact(l))
}

// holds is told here anew: what is asked of the values is counted, and of a sum only what is above or below the number.
func holds(c api.Constraint, t []int) bool {
	switch c.Kind {
	case api.Table:
		return hasRow(c.Rows, t)
	case api.Forbid:
		return !hasRow(c.Rows, t)
	case api.Diff:
		return kinds(t) == len(t)
	case api.Equal:
		return kinds(t) == 1
	case api.Rising:
		return kinds(t) == len(t) && slices.IsSorted(t)
	}
	how, above := c.Args[len(t)], -c.Args[len(t)+1]
	for i := len(t) - 1; i >= 0; i-- {
		above += t[i] * c.Args[i]
	}
	return how == api.Eq && above == 0 || how == api.Le && above <= 0 || how == api.Ne && above != 0
}

// smallDomains have values of both signs, and one has a value alone.
func smallDomains() [][]int { return [][]int{{-1, 0, 2}, {0, 2}, {2}, {-2, -1, 0}} }

func scopes() [][]int { return [][]int{{0}, {2}, {3}, {0, 1}, {1, 3}, {2, 3}, {0, 1, 3}, {0, 1, 2, 3}} }

func domainsOf(domains [][]int, scope []int) [][]int {
	out := [][]int{}
	for _, v := range scope {
		out = append(out, domains[v])
	}
	return out
}

// smallConstraints are of each kind, over each of the scopes.
func smallConstraints() []api.Constraint {
	out := []api.Constraint{}
	for _, scope := range scopes() {
		for _, kind := range []int{api.Diff, api.Equal, api.Rising} {
			out = append(out, over(kind, scope...))
		}
		rows := rowsOf(domainsOf(smallDomains(), scope)...)
		for _, l := range subsets(rows[:min(len(rows), 9)]) {
			out = append(out, table(scope, l...), forbid(scope, l...))
		}
		for _, multipliers := range rowsOf(slices.Repeat([][]int{{-2, 1}}, len(scope))...) {
			for _, how := range []int{api.Eq, api.Le, api.Ne} {
				for number := -3; number <= 3; number++ {
					c := linear(how, number, multipliers...)
					c.Scope = scope
					out = append(out, c)
				}
			}
		}
	}
	return out
}

func TestHolds(t *testing.T) {
	two := []int{0, 1}
	rows := [][]int{{-3, 1}, {0, 0}, {0, 1}, {2, -2}}
	for i, c := range []struct {
		c    api.Constraint
		t    []int
		want bool
	}{
		{table(two, rows...), []int{-3, 1}, true}, {table(two, rows...), []int{2, -2}, true}, {table(two, rows...), []int{0, 1}, true},
		{table(two, rows...), []int{1, 0}, false}, {table(two, rows...), []int{-4, 0}, false}, {table(two, rows...), []int{3, 0}, false},
		{table(two), []int{0, 0}, false}, {table([]int{7}, []int{5}), []int{5}, true}, {table([]int{7}, []int{5}), []int{-5}, false},
		{forbid(two, rows...), []int{-3, 1}, false}, {forbid(two, rows...), []int{2, -2}, false}, {forbid(two, rows...), []int{0, 1}, false},
		{forbid(two, rows...), []int{1, 0}, true}, {forbid(two, rows...), []int{-4, 0}, true}, {forbid(two, rows...), []int{3, 0}, true},
		{forbid(two), []int{0, 0}, true}, {forbid([]int{7}, []int{5}), []int{5}, false}, {forbid([]int{7}, []int{5}), []int{-5}, true},
		{over(api.Diff, 4), []int{0}, true}, {over(api.Diff, 0, 1), []int{1, -1}, true}, {over(api.Diff, 0, 1), []int{1, 1}, false},
		{over(api.Diff, 0, 1, 2), []int{2, 1, 2}, false}, {over(api.Diff, 0, 1, 2), []int{1, 2, 2}, false}, {over(api.Diff, 0, 1, 2), []int{2, 2, 1}, false},
		{over(api.Diff, 0, 1, 2, 3, 4, 5), []int{6, 5, 4, 3, 2, 1}, true}, {over(api.Diff, 0, 1, 2, 3, 4, 5), []int{6, 5, 4, 3, 2, 6}, false},
		{over(api.Equal, 4), []int{-9}, true}, {over(api.Equal, 0, 1), []int{1, -1}, false}, {over(api.Equal, 0, 1), []int{-1, -1}, true},
		{over(api.Equal, 0, 1, 2), []int{1, 1, 2}, false}, {over(api.Equal, 0, 1, 2), []int{1, 2, 1}, false}, {over(api.Equal, 0, 1, 2), []int{2, 1, 1}, false},
		{over(api.Equal, 0, 1, 2, 3, 4, 5), []int{7, 7, 7, 7, 7, 7}, true}, {over(api.Equal, 0, 1, 2, 3, 4, 5), []int{7, 7, 7, 7, 7, 8}, false},
		{over(api.Rising, 4), []int{-9}, true}, {over(api.Rising, 0, 1), []int{-1, 1}, true}, {over(api.Rising, 0, 1), []int{1, 1}, false},
		{over(api.Rising, 0, 1), []int{1, -1}, false}, {over(api.Rising, 0, 1, 2), []int{1, 3, 2}, false}, {over(api.Rising, 0, 1, 2), []int{3, 1, 4}, false},
		{over(api.Rising, 0, 1, 2, 3, 4, 5), []int{-3, -1, 0, 1, 5, 9}, true}, {over(api.Rising, 0, 1, 2, 3, 4, 5), []int{-3, -1, 0, 1, 5, 5}, false},
	} {
		if got := Holds(c.c, c.t); got != c.want {
			t.Errorf("case %d: %v of %v: %v", i, c.c, c.t, got)
		}
	}
}

// TestSums has each sum just the number, one below it, and one above it.
func TestSums(t *testing.T) {
	const most = api.MaxValue
	for i, c := range []struct {
		multipliers, t []int
		sum            int
	}{
		{[]int{1}, []int{0}, 0}, {[]int{-1}, []int{5}, -5}, {[]int{3}, []int{-4}, -12},
		{[]int{2, -1}, []int{2, 1}, 3}, {[]int{-2, -3}, []int{-5, 4}, -2}, {[]int{1, 10, 100}, []int{3, 2, 1}, 123},
		{[]int{1, -2, 3, -4, 5, -6}, []int{6, 5, 4, 3, 2, 1}, 0}, {[]int{1, 1, 1, 1, 1, 1}, []int{1, 2, 3, 4, 5, 6}, 21},
		{[]int{most}, []int{0}, 0}, {[]int{most, -most}, []int{most, most}, 0}, {[]int{most, most, 1}, []int{most, -most, -7}, -7},
		{[]int{most, 1}, []int{1, -1}, most - 1}, {[]int{-1, -1}, []int{most, -1}, 1 - most},
		{[]int{most, -most, most, -most, most, -most}, []int{most, most, -most, -most, most, most}, 0},
	} {
		for off := -1; off <= 1; off++ {
			for how, want := range map[int]bool{api.Eq: off == 0, api.Le: off <= 0, api.Ne: off != 0} {
				// The sum is above the number by off.
				if got := Holds(linear(how, c.sum-off, c.multipliers...), c.t); got != want {
					t.Errorf("case %d: how %d, %d above the number: %v", i, how, off, got)
				}
			}
		}
	}
}

// TestGreatSums has sums beyond any number that they may be held against, of values and multipliers just as great as may be.
func TestGreatSums(t *testing.T) {
	const most = api.MaxValue
	for _, sign := range []int{1, -1} {
		for n := 1; n <= api.MaxArity; n++ {
			multipliers, values := slices.Repeat([]int{most}, n), slices.Repeat([]int{sign * most}, n)
			for _, number := range []int{-most, -1, 0, 1, most} {
				for how, want := range map[int]bool{api.Eq: false, api.Le: sign < 0, api.Ne: true} {
					if got := Holds(linear(how, number, multipliers...), values); got != want {
						t.Errorf("%d of sign %d, how %d, number %d: %v", n, sign, how, number, got)
					}
				}
			}
		}
		for how, want := range map[int]bool{api.Eq: true, api.Le: true, api.Ne: false} {
			for _, c := range []api.Constraint{linear(how, sign*most, most), linear(how, sign*most, -most)} {
				value := sign * most / c.Args[0]
				if got := Holds(c, []int{value}); got != want {
					t.Errorf("%v of %d: %v", c, value, got)
				}
			}
		}
	}
}

func TestHoldsOfAllSmallOnes(t *testing.T) {
	yes, no := map[int]int{}, map[int]int{}
	for _, c := range smallConstraints() {
		for _, row := range rowsOf(slices.Repeat([][]int{{-2, -1, 0, 2}}, len(c.Scope))...) {
			want := holds(c, row)
			if got := Holds(c, row); got != want {
				t.Fatalf("%v of %v: %v", c, row, got)
			}
			if want {
				yes[c.Kind]++
			} else {
				no[c.Kind]++
			}
		}
	}
	for kind := api.Table; kind <= api.Linear; kind++ {
		if yes[kind] == 0 || no[kind] == 0 {
			t.Errorf("kind %d holds %d times, and does not %d times", kind, yes[kind], no[kind])
		}
	}
}

func TestHoldsOfOtherThanSoManyValues(t *testing.T) {
	rows := [][]int{{1, 2}, {1, 2, 3}, {1, 2, 3, 4}}
	for _, c := range []api.Constraint{
		table([]int{0, 1, 2}, rows...), forbid([]int{0, 1, 2}), over(api.Diff, 0, 1, 2), over(api.Equal, 0, 1, 2), over(api.Rising, 0, 1, 2),
		linear(api.Eq, 0, 1, 1, 1), linear(api.Le, 9, 1, 1, 1), linear(api.Ne, 7, 1, 1, 1), linear(api.Le, 9, 1, 1), linear(api.Le, 9, 1, 1, 1, 1),
	} {
		c.Scope = []int{0, 1, 2}
		for _, values := range [][]int{nil, {}, {1}, {0}, {1, 2}, {0, 0}, {1, 2, 3, 4}, {0, 0, 0, 0}, {1, 1, 1, 1}, upTo(7)} {
			if Holds(c, values) {
				t.Errorf("%v of %v: yes", c, values)
			}
		}
	}
	for kind := api.Table; kind <= api.Rising; kind++ {
		c := over(kind, 0)
		if Holds(c, nil) || Holds(c, []int{}) || Holds(c, []int{1, 2}) || Holds(c, []int{1, 1}) {
			t.Errorf("kind %d: yes", kind)
		}
	}
}

// TestHoldsOfWhatIsNoConstraint: of what no right instance has nothing holds.
func TestHoldsOfWhatIsNoConstraint(t *testing.T) {
	for i, c := range []api.Constraint{
		over(0, 0), over(7, 0), over(-1, 0), over(api.Linear, 0),
		{Kind: api.Linear, Scope: []int{0}, Args: []int{1}}, {Kind: api.Linear, Scope: []int{0}, Args: []int{1, api.Le}},
		{Kind: api.Linear, Scope: []int{0}, Args: []int{1, api.Le, 9, 9}}, linear(3, 9, 1), linear(-1, 9, 1),
	} {
		if Holds(c, []int{1}) {
			t.Errorf("case %d: yes", i)
		}
	}
}

func TestCost(t *testing.T) {
	s := api.Soft{Scope: []int{0, 2}, Rows: [][]int{{-1, 6}, {0, 5}, {2, 5}, {2, 6}}, Costs: []int64{4, -2, api.MaxCost, 0}, Default: 9}
	for i, c := range []struct {
		s    api.Soft
		t    []int
		want int64
	}{
		{s, []int{-1, 6}, 4}, {s, []int{0, 5}, -2}, {s, []int{2, 5}, api.MaxCost}, {s, []int{2, 6}, 0},
		{s, []int{-1, 5}, 9}, {s, []int{0, 6}, 9}, {s, []int{-2, 0}, 9}, {s, []int{3, 0}, 9}, {s, []int{6, 2}, 9},
		{s, nil, 9}, {s, []int{2}, 9}, {s, []int{2, 6, 0}, 9},
		{api.Soft{Scope: []int{0}, Default: -api.MaxCost}, []int{0}, -api.MaxCost}, {api.Soft{Scope: []int{0}}, []int{0}, 0},
		{api.Soft{Scope: []int{3}, Rows: [][]int{{5}}, Costs: []int64{-api.MaxCost}, Default: 1}, []int{5}, -api.MaxCost},
		// This is not right, as it has fewer costs than rows.
		{api.Soft{Scope: []int{3}, Rows: [][]int{{5}, {6}}, Costs: []int64{7}, Default: 1}, []int{6}, 1},
	} {
		if got := Cost(c.s, c.t); got != c.want {
			t.Errorf("case %d: %d, not %d", i, got, c.want)
		}
	}
}
