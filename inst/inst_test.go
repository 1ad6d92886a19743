package inst

import (
	"math"
	"slices"
	"testing"

	"arborist/api"
)

// sample has each kind of hard constraint, and soft ones, with rows and without.
func sample() api.Instance {
	return api.Instance{
		Domains: [][]int{{-1, 0, 4}, {1, 2}, {7}},
		Hard: []api.Constraint{
			{Kind: api.Table, Scope: []int{0, 1}, Rows: [][]int{{-1, 1}, {4, 2}}},
			{Kind: api.Forbid, Scope: []int{2}},
			{Kind: api.Diff, Scope: []int{0, 1, 2}},
			{Kind: api.Equal, Scope: []int{1}},
			{Kind: api.Rising, Scope: []int{0, 2}},
			{Kind: api.Linear, Scope: []int{0, 2}, Args: []int{2, -3, api.Le, 5}},
			{Kind: api.Forbid, Scope: []int{0}, Rows: [][]int{{-1}, {0}, {4}}},
			{Kind: api.Table, Scope: []int{1}},
		},
		Soft: []api.Soft{
			{Scope: []int{0, 1}, Rows: [][]int{{-1, 1}, {0, 2}}, Costs: []int64{-5, 0}, Default: 7},
			{Scope: []int{2}},
		},
	}
}

const sampleText = "var -1 0 4;\nvar 1 2;\nvar 7;\n" +
	"table 0 1: -1 1, 4 2;\nforbid 2:;\ndiff 0 1 2;\nequal 1;\nrising 0 2;\nlinear 2 0, -3 2: le 5;\nforbid 0: -1, 0, 4;\ntable 1:;\n" +
	"soft 0 1: 7, -1 1 -5, 0 2 0;\nsoft 2: 0;\n"

// upTo answers the numbers from 0 on, so many of them.
func upTo(n int) []int {
	l := []int{}
	for i := range n {
		l = append(l, i)
	}
	return l
}

// variables answers so many of them, each with the values 0 and 1.
func variables(n int) [][]int {
	l := [][]int{}
	for range n {
		l = append(l, []int{0, 1})
	}
	return l
}

func hard(c api.Constraint) api.Instance {
	return api.Instance{Domains: variables(8), Hard: []api.Constraint{c}}
}

func soft(s api.Soft) api.Instance {
	return api.Instance{Domains: variables(8), Soft: []api.Soft{s}}
}

type asked struct {
	name string
	x    api.Instance
	want bool
}

func checkRight(t *testing.T, cases []asked) {
	t.Helper()
	for _, c := range cases {
		if got := Right(c.x); got != c.want {
			t.Errorf("%s: %v", c.name, got)
		}
		text := Print(c.x)
		if !c.want && text != "" {
			t.Errorf("%s is printed: %q", c.name, text)
		}
		// Only an instance without statements is printed as nothing.
		if has := len(c.x.Domains) > 0; c.want && (text != "") != has {
			t.Errorf("%s: printed %q", c.name, text)
		}
	}
}

func TestRightOfAll(t *testing.T) {
	checkRight(t, []asked{
		{"nothing", api.Instance{}, true},
		{"empty lists", api.Instance{Domains: [][]int{}, Hard: []api.Constraint{}, Soft: []api.Soft{}}, true},
		{"each kind", sample(), true},
		{"40 variables", api.Instance{Domains: variables(40)}, true},
		{"41 variables", api.Instance{Domains: variables(41)}, false},
		{"a hard constraint without variables", api.Instance{Hard: []api.Constraint{{Kind: api.Diff, Scope: []int{0}}}}, false},
		{"a soft constraint without variables", api.Instance{Soft: []api.Soft{{Scope: []int{0}}}}, false},
	})
}

func TestRightOfConstraintsInAll(t *testing.T) {
	many := func(hard, soft int) api.Instance {
		x := api.Instance{Domains: variables(1)}
		for range hard {
			x.Hard = append(x.Hard, api.Constraint{Kind: api.Equal, Scope: []int{0}})
		}
		for range soft {
			x.Soft = append(x.Soft, api.Soft{Scope: []int{0}})
		}
		return x
	}
	lastWrong := many(200, 200)
	lastWrong.Hard[199].Kind = 0
	softWrong := many(200, 200)
	softWrong.Soft[199].Default = api.MaxCost + 1
	checkRight(t, []asked{
		{"200 of each", many(200, 200), true},
		{"201 hard", many(201, 0), false},
		{"201 soft", many(0, 201), false},
		{"the last hard one", lastWrong, false},
		{"the last soft one", softWrong, false},
	})
}

func TestRightOfDomains(t *testing.T) {
	one := func(d ...int) api.Instance { return api.Instance{Domains: [][]int{{0}, d}} }
	checkRight(t, []asked{
		{"none", one(), false},
		{"one", one(5), true},
		{"16", one(upTo(16)...), true},
		{"17", one(upTo(17)...), false},
		{"falls", one(2, 1), false},
		{"the same", one(1, 1), false},
		{"falls at last", one(1, 2, 3, 2), false},
		{"greatest and least", one(-1000000, 1000000), true},
		{"too great", one(0, 1000001), false},
		{"too small", one(-1000001, 0), false},
		{"as great as can be", one(math.MaxInt), false},
		{"as small as can be", one(math.MinInt), false},
	})
}

func TestRightOfScopes(t *testing.T) {
	scopes := []struct {
		name  string
		scope []int
		want  bool
	}{
		{"none", nil, false}, {"empty", []int{}, false}, {"one", []int{7}, true}, {"six", []int{0, 1, 2, 4, 6, 7}, true}, {"seven", upTo(7), false},
		{"falls", []int{1, 0}, false}, {"the same", []int{2, 2}, false}, {"falls at last", []int{0, 3, 1}, false},
		{"none such", []int{8}, false}, {"none such at last", []int{0, 8}, false}, {"below 0", []int{-1, 0}, false},
		{"far above", []int{math.MaxInt}, false}, {"far below", []int{math.MinInt}, false},
	}
	for _, c := range scopes {
		cases := []asked{}
		for kind := 1; kind <= 5; kind++ {
			cases = append(cases, asked{c.name + " of " + words[kind], hard(api.Constraint{Kind: kind, Scope: c.scope}), c.want})
		}
		args := append(slices.Repeat([]int{1}, len(c.scope)), api.Eq, 0)
		cases = append(cases, asked{c.name + " of linear", hard(api.Constraint{Kind: api.Linear, Scope: c.scope, Args: args}), c.want})
		cases = append(cases, asked{c.name + " of soft", soft(api.Soft{Scope: c.scope}), c.want})
		checkRight(t, cases)
	}
}

func TestRightOfKinds(t *testing.T) {
	cases := []asked{}
	for _, kind := range []int{math.MinInt, -1, 0, 7, 8, math.MaxInt} {
		cases = append(cases, asked{"no kind", hard(api.Constraint{Kind: kind, Scope: []int{0}}), false})
		cases = append(cases, asked{"no kind, with args", hard(api.Constraint{Kind: kind, Scope: []int{0}, Args: []int{1, 0, 0}}), false})
	}
	for kind := 1; kind <= 6; kind++ {
		rows := api.Constraint{Kind: kind, Scope: []int{0}, Rows: [][]int{{1}}}
		bare := api.Constraint{Kind: kind, Scope: []int{0}, Rows: [][]int{}, Args: []int{}}
		args := api.Constraint{Kind: kind, Scope: []int{0}, Args: []int{1, 0, 0}}
		both := api.Constraint{Kind: kind, Scope: []int{0}, Rows: [][]int{{1}}, Args: []int{1, 0, 0}}
		one := api.Constraint{Kind: kind, Scope: []int{0}, Args: []int{0}}
		cases = append(cases,
			asked{words[kind] + " with rows", hard(rows), kind <= 2},
			asked{words[kind] + " with nothing", hard(bare), kind <= 5},
			asked{words[kind] + " with args", hard(args), kind == 6},
			asked{words[kind] + " with both", hard(both), false},
			asked{words[kind] + " with one arg", hard(one), false})
	}
	checkRight(t, cases)
}

func TestRightOfRows(t *testing.T) {
	domains := [][]int{{-1, 0, 4}, {1, 2}, {7}}
	lists := []struct {
		name string
		rows [][]int
		want bool
	}{
		{"none", nil, true}, {"one", [][]int{{0, 2}}, true}, {"all", [][]int{{-1, 1}, {-1, 2}, {0, 1}, {0, 2}, {4, 1}, {4, 2}}, true},
		{"fall by the first", [][]int{{0, 1}, {-1, 2}}, false}, {"fall by the last", [][]int{{0, 2}, {0, 1}}, false}, {"the same", [][]int{{0, 1}, {0, 1}}, false},
		{"fall at last", [][]int{{-1, 1}, {4, 1}, {0, 1}}, false},
		{"too few numbers", [][]int{{0}}, false}, {"too many numbers", [][]int{{0, 1, 7}}, false}, {"no numbers", [][]int{{}}, false}, {"too few at last", [][]int{{-1, 1}, {0}}, false},
		{"no value of the first", [][]int{{1, 1}}, false}, {"no value of the last", [][]int{{0, 0}}, false}, {"no value, at last", [][]int{{-1, 1}, {0, 7}}, false},
	}
	for _, l := range lists {
		costs := make([]int64, len(l.rows))
		checkRight(t, []asked{
			{l.name + " of table", api.Instance{Domains: domains, Hard: []api.Constraint{{Kind: api.Table, Scope: []int{0, 1}, Rows: l.rows}}}, l.want},
			{l.name + " of forbid", api.Instance{Domains: domains, Hard: []api.Constraint{{Kind: api.Forbid, Scope: []int{0, 1}, Rows: l.rows}}}, l.want},
			{l.name + " of soft", api.Instance{Domains: domains, Soft: []api.Soft{{Scope: []int{0, 1}, Rows: l.rows, Costs: costs}}}, l.want},
		})
	}
	// A number of the row goes by its variable's domain, not by that of the variable with its place's number.
	skewed := func(row ...int) api.Instance {
		return api.Instance{Domains: domains, Hard: []api.Constraint{{Kind: api.Table, Scope: []int{1, 2}, Rows: [][]int{row}}}}
	}
	checkRight(t, []asked{{"by its variable", skewed(2, 7), true}, {"by its place", skewed(0, 1), false}})
}

func TestRightOfArgs(t *testing.T) {
	linear := func(args ...int) api.Instance {
		return hard(api.Constraint{Kind: api.Linear, Scope: []int{0, 1}, Args: args})
	}
	checkRight(t, []asked{
		{"eq", linear(1, 1, 0, 0), true}, {"le", linear(1, 1, 1, 0), true}, {"ne", linear(1, 1, 2, 0), true},
		{"no way below", linear(1, 1, -1, 0), false}, {"no way above", linear(1, 1, 3, 0), false},
		{"none", linear(), false}, {"too few", linear(1, 1, 1), false}, {"too many", linear(1, 1, 1, 1, 1), false},
		{"multipliers as great as may be", linear(-1000000, 1000000, 0, 0), true},
		{"first too great", linear(1000001, 1, 0, 0), false}, {"first too small", linear(-1000001, 1, 0, 0), false},
		{"last too great", linear(1, 1000001, 0, 0), false}, {"last too small", linear(1, -1000001, 0, 0), false},
		{"first 0", linear(0, 1, 0, 0), false}, {"last 0", linear(1, 0, 0, 0), false},
		{"least multiplier of all", linear(math.MinInt, 1, 0, 0), false},
		{"number as great as may be", linear(1, 1, 0, 1000000), true}, {"number as small as may be", linear(1, 1, 0, -1000000), true},
		{"number too great", linear(1, 1, 0, 1000001), false}, {"number too small", linear(1, 1, 0, -1000001), false},
		{"least number of all", linear(1, 1, 0, math.MinInt), false},
	})
}

func TestRightOfCosts(t *testing.T) {
	costing := func(standard int64, costs ...int64) api.Instance {
		return soft(api.Soft{Scope: []int{0}, Rows: [][]int{{0}, {1}}, Costs: costs, Default: standard})
	}
	const most = 1000000000000
	checkRight(t, []asked{
		{"as many", costing(0, 0, 0), true}, {"too few", costing(0, 0), false}, {"none", costing(0), false}, {"too many", costing(0, 0, 0, 0), false},
		{"costs without rows", soft(api.Soft{Scope: []int{0}, Costs: []int64{1}}), false},
		{"as great as may be", costing(most, -most, most), true}, {"as small as may be", costing(-most, most, -most), true},
		{"default too great", costing(most+1, 0, 0), false}, {"default too small", costing(-most-1, 0, 0), false},
		{"first too great", costing(0, most+1, 0), false}, {"first too small", costing(0, -most-1, 0), false},
		{"last too great", costing(0, 0, most+1), false}, {"last too small", costing(0, 0, -most-1), false},
		{"least default of all", costing(math.MinInt64, 0, 0), false}, {"greatest of all", costing(0, math.MaxInt64, 0), false}, {"least of all", costing(0, math.MinInt64, 0), false},
	})
}
