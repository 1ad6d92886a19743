package built

import (
	"math"
	"slices"
	"testing"

	"arborist/api"
	"arborist/weigh"
)

// same and right are told here anew, so that a fault of a layer below does not hide itself.
func same(a, b api.Rel) bool {
	return slices.Equal(a.Scheme, b.Scheme) && slices.EqualFunc(a.Rows, b.Rows, slices.Equal)
}

func right(r api.Rel) bool {
	for i, v := range r.Scheme {
		if v < 0 || i > 0 && r.Scheme[i-1] >= v {
			return false
		}
	}
	for i, t := range r.Rows {
		if len(t) != len(r.Scheme) || i > 0 && slices.Compare(r.Rows[i-1], t) >= 0 {
			return false
		}
	}
	return true
}

func isZero(r api.Rel) bool { return len(r.Scheme) == 0 && len(r.Rows) == 0 }

// checkMost holds a call against what it should answer: with just as many rows as most, with more room, and with less.
func checkMost(t *testing.T, name string, call func(most int) (api.Rel, api.Errno), want api.Rel) {
	t.Helper()
	n := len(want.Rows)
	for _, most := range []int{n, n + 1, math.MaxInt} {
		if got, e := call(most); e != api.OK || !right(got) || !same(got, want) {
			t.Fatalf("%s, most %d: %v %v, not %v", name, most, got, e, want)
		}
	}
	for _, most := range []int{n - 1, n / 2, 0, -1, math.MinInt} {
		// Of no rows only those below 0 are too few.
		if most >= n {
			continue
		}
		if got, e := call(most); e != api.ErrRows || !isZero(got) {
			t.Fatalf("%s, most %d of %d rows: %v %v", name, most, n, got, e)
		}
	}
}

func checkFull(t *testing.T, domains [][]int, scope []int, want [][]int) {
	t.Helper()
	checkMost(t, "Full", func(most int) (api.Rel, api.Errno) { return Full(domains, scope, most) }, api.Rel{Scheme: scope, Rows: want})
}

func checkTable(t *testing.T, domains [][]int, c api.Constraint, want [][]int) {
	t.Helper()
	checkMost(t, "Table", func(most int) (api.Rel, api.Errno) { return Table(domains, c, most) }, api.Rel{Scheme: c.Scope, Rows: want})
}

func checkCosts(t *testing.T, domains [][]int, s api.Soft, rows [][]int, want []int64) {
	t.Helper()
	call := func(most int) (api.Rel, api.Errno) {
		got, e := Costs(domains, s, most)
		if e == api.OK && !slices.Equal(got.W, want) || e != api.OK && len(got.W) > 0 {
			t.Fatalf("most %d: %v %v, not %v", most, got.W, e, want)
		}
		return got.Rel, e
	}
	checkMost(t, "Costs", call, api.Rel{Scheme: s.Scope, Rows: rows})
}

func TestFull(t *testing.T) {
	domains := [][]int{{0, 2}, {1}, {5, 6}, {-7, 0, 3}}
	for _, c := range []struct {
		scope []int
		want  [][]int
	}{
		{nil, [][]int{{}}}, {[]int{}, [][]int{{}}},
		{[]int{1}, [][]int{{1}}}, {[]int{3}, [][]int{{-7}, {0}, {3}}},
		{[]int{0, 1}, [][]int{{0, 1}, {2, 1}}}, {[]int{1, 2}, [][]int{{1, 5}, {1, 6}}},
		{[]int{0, 3}, [][]int{{0, -7}, {0, 0}, {0, 3}, {2, -7}, {2, 0}, {2, 3}}},
		{[]int{0, 1, 2}, [][]int{{0, 1, 5}, {0, 1, 6}, {2, 1, 5}, {2, 1, 6}}},
	} {
		checkFull(t, domains, c.scope, c.want)
	}
	checkFull(t, nil, nil, [][]int{{}})
	checkFull(t, [][]int{{0, 1}, {5}}, []int{0, 1}, [][]int{{0, 5}, {1, 5}})
	checkFull(t, [][]int{{-api.MaxValue, api.MaxValue}}, []int{0}, [][]int{{-api.MaxValue}, {api.MaxValue}})
	for _, scope := range scopes() {
		checkFull(t, smallDomains(), scope, rowsOf(domainsOf(smallDomains(), scope)...))
	}
}

func TestFullOfMany(t *testing.T) {
	domains := slices.Repeat([][]int{upTo(api.MaxDomain)}, api.MaxVars)
	checkFull(t, domains, []int{3, 17, 39}, rowsOf(domains[:3]...))
	// All of these are far more than can be gone through.
	for _, most := range []int{-1, 0, 1, 1000} {
		if got, e := Full(domains, upTo(api.MaxVars), most); e != api.ErrRows || !isZero(got) {
			t.Errorf("most %d: %d rows, %v", most, len(got.Rows), e)
		}
	}
	ones := slices.Repeat([][]int{{4}}, api.MaxVars)
	checkFull(t, ones, upTo(api.MaxVars), [][]int{slices.Repeat([]int{4}, api.MaxVars)})
}

func TestTable(t *testing.T) {
	domains := [][]int{{0, 2}, {1, 2}, {5, 6}, {-7, 0, 3}}
	for _, c := range []struct {
		c    api.Constraint
		want [][]int
	}{
		{table([]int{0, 1}, []int{0, 2}, []int{2, 1}), [][]int{{0, 2}, {2, 1}}}, {table([]int{0, 1}), nil}, {table([]int{3}, []int{-7}), [][]int{{-7}}},
		{forbid([]int{0, 1}, []int{0, 2}, []int{2, 1}), [][]int{{0, 1}, {2, 2}}}, {forbid([]int{3}), [][]int{{-7}, {0}, {3}}},
		{forbid([]int{0}, []int{0}, []int{2}), nil}, {over(api.Diff, 0, 1), [][]int{{0, 1}, {0, 2}, {2, 1}}}, {over(api.Diff, 1), [][]int{{1}, {2}}},
		{over(api.Equal, 0, 1), [][]int{{2, 2}}}, {over(api.Equal, 0, 2), nil}, {over(api.Equal, 0, 1, 3), nil},
		{over(api.Rising, 0, 1), [][]int{{0, 1}, {0, 2}}}, {over(api.Rising, 2, 3), nil}, {over(api.Rising, 0, 1, 2), [][]int{{0, 1, 5}, {0, 1, 6}, {0, 2, 5}, {0, 2, 6}}},
		{linear(api.Eq, 4, 1, 2), [][]int{{0, 2}, {2, 1}}}, {linear(api.Le, 4, 1, 2), [][]int{{0, 1}, {0, 2}, {2, 1}}},
		{linear(api.Ne, 4, 1, 2), [][]int{{0, 1}, {2, 2}}}, {linear(api.Le, -9, 1, 2), nil},
	} {
		checkTable(t, domains, c.c, c.want)
	}
}

func TestTableIsWhatHoldsAndNothingElse(t *testing.T) {
	domains := smallDomains()
	for _, c := range smallConstraints() {
		want := [][]int{}
		for _, row := range rowsOf(domainsOf(domains, c.Scope)...) {
			if holds(c, row) {
				want = append(want, row)
			}
		}
		checkTable(t, domains, c, want)
	}
}

// TestTableOfFewRowsAmongMany: most is held against the rows that Holds, however many it is asked of.
func TestTableOfFewRowsAmongMany(t *testing.T) {
	domains := slices.Repeat([][]int{upTo(8)}, api.MaxArity)
	equal := [][]int{}
	for n := range 8 {
		equal = append(equal, slices.Repeat([]int{n}, api.MaxArity))
	}
	checkTable(t, domains, over(api.Equal, upTo(api.MaxArity)...), equal)
	checkTable(t, domains, linear(api.Eq, 42, 1, 1, 1, 1, 1, 1), equal[7:])
	checkTable(t, domains, linear(api.Le, -1, 1, 1, 1, 1, 1, 1), nil)
}

func TestCosts(t *testing.T) {
	domains := [][]int{{0, 2}, {1}, {5, 6}}
	four := [][]int{{0, 5}, {0, 6}, {2, 5}, {2, 6}}
	s := api.Soft{Scope: []int{0, 2}, Rows: [][]int{{0, 6}, {2, 5}}, Costs: []int64{4, -2}, Default: 9}
	checkCosts(t, domains, s, four, []int64{9, 4, -2, 9})
	checkCosts(t, domains, api.Soft{Scope: []int{0, 2}, Default: -api.MaxCost}, four, slices.Repeat([]int64{-api.MaxCost}, 4))
	checkCosts(t, domains, api.Soft{Scope: []int{0, 2}, Rows: four, Costs: []int64{1, api.MaxCost, 0, -1}, Default: 5}, four, []int64{1, api.MaxCost, 0, -1})
	checkCosts(t, domains, api.Soft{Scope: []int{1}}, [][]int{{1}}, []int64{0})
	checkCosts(t, domains, api.Soft{Scope: []int{1}, Rows: [][]int{{1}}, Costs: []int64{3}}, [][]int{{1}}, []int64{3})
}

func TestCostsOfAllSmallOnes(t *testing.T) {
	domains := smallDomains()
	for _, scope := range scopes() {
		rows := rowsOf(domainsOf(domains, scope)...)
		for _, l := range subsets(rows[:min(len(rows), 9)]) {
			s := api.Soft{Scope: scope, Rows: l, Default: -1}
			for i := range l {
				s.Costs = append(s.Costs, int64(10-i*i))
			}
			want := []int64{}
			for _, row := range rows {
				cost := s.Default
				for i, u := range l {
					if slices.Equal(u, row) {
						cost = s.Costs[i]
					}
				}
				want = append(want, cost)
			}
			checkCosts(t, domains, s, rows, want)
		}
	}
}

func TestCostsAreRight(t *testing.T) {
	domains := smallDomains()
	for _, scope := range scopes() {
		if w, e := Costs(domains, api.Soft{Scope: scope, Default: api.MaxCost}, 1000); e != api.OK || !weigh.Right(w) {
			t.Errorf("%v: %v %v", scope, w, e)
		}
	}
}

// TestWhatIsNotRightEnds: of such nothing is promised, but that calls end, and do not panic.
func TestWhatIsNotRightEnds(t *testing.T) {
	rows := [][]int{nil, {1}, {1, 2, 3}, {0, 0}, {math.MinInt, math.MaxInt}}
	args := [][]int{nil, {1}, {1, 2}, {1, 2, 3}, {1, 2, 3, 4}, {math.MinInt, math.MaxInt, api.Le, math.MinInt}}
	many := append(upTo(api.MaxVars), api.MaxVars)
	full := slices.Repeat([][]int{upTo(api.MaxDomain)}, api.MaxVars)
	scopes := [][]int{nil, {-1}, {0}, {3}, {1, 0}, {0, 0}, {0, 1, 2, 3}, {math.MinInt, math.MaxInt}, many}
	for _, domains := range [][][]int{nil, {{}}, {nil, {1}}, {{2, 1, 1}, {1, math.MinInt}}, full} {
		for _, scope := range scopes {
			for _, most := range []int{math.MinInt, -1, 0, 1, 5} {
				Full(domains, scope, most)
				Costs(domains, api.Soft{Scope: scope, Rows: rows, Costs: []int64{1}, Default: math.MinInt64}, most)
				for kind := api.Table - 1; kind <= api.Linear+1; kind++ {
					if len(scope) > api.MaxArity {
						continue
					}
					for _, a := range args {
						Table(domains, api.Constraint{Kind: kind, Scope: scope, Rows: rows, Args: a}, most)
					}
				}
			}
		}
	}
	// The last variable has no value, and those ahead of it far more rows than can be gone through.
	if got, e := Full(append(full[:39:39], nil), upTo(api.MaxVars), 5); e != api.OK || len(got.Rows) > 0 {
		t.Errorf("%v %v", got, e)
	}
	for kind := api.Table - 1; kind <= api.Linear+1; kind++ {
		for _, a := range args {
			for _, values := range append(rows, upTo(2), many) {
				for _, scope := range scopes {
					Holds(api.Constraint{Kind: kind, Scope: scope, Rows: rows, Args: a}, values)
					Cost(api.Soft{Scope: scope, Rows: rows, Costs: []int64{1}}, values)
				}
			}
		}
	}
}
