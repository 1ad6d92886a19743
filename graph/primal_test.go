package graph

import (
	"slices"
	"testing"

	"arborist/api"
)

// instanceOf has n variables of one value, and constraints that say nothing but their scopes.
func instanceOf(n int, hard, soft [][]int) api.Instance {
	x := api.Instance{Domains: make([][]int, n)}
	for i := range x.Domains {
		x.Domains[i] = []int{0}
	}
	for _, scope := range hard {
		x.Hard = append(x.Hard, api.Constraint{Kind: api.Equal, Scope: scope})
	}
	for _, scope := range soft {
		x.Soft = append(x.Soft, api.Soft{Scope: scope})
	}
	return x
}

// besideIn asks the scopes themselves.
func besideIn(scopes [][]int, a, b int) bool {
	return a != b && slices.ContainsFunc(scopes, func(s []int) bool { return slices.Contains(s, a) && slices.Contains(s, b) })
}

func checkPrimal(t *testing.T, n int, hard, soft [][]int) {
	t.Helper()
	g := Primal(instanceOf(n, hard, soft))
	all := append(slices.Clone(hard), soft...)
	want := matrixOf(n)
	for a := range want {
		for b := range want {
			want[a][b] = besideIn(all, a, b)
		}
	}
	if !same(g, want.graph()) || !Right(g) {
		t.Fatalf("%d %v %v: %v", n, hard, soft, g)
	}
	for _, scope := range all {
		if !Clique(g, scope) {
			t.Fatalf("%v is no clique of %v", scope, g)
		}
	}
}

func TestPrimal(t *testing.T) {
	six := []int{1, 3, 4, 6, 7, 9}
	for _, c := range []struct {
		n          int
		hard, soft [][]int
	}{
		{0, nil, nil},
		{1, nil, nil},
		{4, nil, nil},
		{40, nil, nil},
		{1, [][]int{{0}}, [][]int{{0}}},
		{4, [][]int{{2}}, nil},
		{4, nil, [][]int{{2}}},
		{4, [][]int{{0, 2}}, nil},
		{4, nil, [][]int{{0, 2}}},
		{4, [][]int{{0, 2}}, [][]int{{1, 2, 3}}},
		{4, [][]int{{1, 2, 3}}, [][]int{{0, 2}}},
		{4, [][]int{{0, 1}}, [][]int{{0, 1}}},
		{4, [][]int{{0, 1}, {0, 1}, {1, 2}}, nil},
		{4, nil, [][]int{{0, 1}, {1, 2}, {0, 2}}},
		{10, [][]int{six}, nil},
		{10, nil, [][]int{six}},
		{10, [][]int{six, {0, 1, 2, 3, 4, 5}}, [][]int{{5, 8}, {4, 5, 6, 7, 8, 9}}},
		{40, [][]int{{0, 39}}, [][]int{{38, 39}, {0, 1}}},
		{40, [][]int{{34, 35, 36, 37, 38, 39}}, [][]int{{0, 1, 2, 3, 4, 39}}},
	} {
		checkPrimal(t, c.n, c.hard, c.soft)
	}
}

func TestPrimalOfAllKinds(t *testing.T) {
	x := instanceOf(12, nil, nil)
	for kind := api.Table; kind <= api.Linear; kind++ {
		x.Hard = append(x.Hard, api.Constraint{Kind: kind, Scope: []int{2*kind - 2, 2*kind - 1}, Args: []int{1, 1, api.Eq, 0}})
	}
	g := Primal(x)
	for a := range 12 {
		if got := Neighbors(g, a); !slices.Equal(got, []int{a ^ 1}) {
			t.Errorf("%d: %v", a, got)
		}
	}
}

// Every pair of scopes over four variables, hard and soft in both ways.
func TestPrimalOfAllSmallOnes(t *testing.T) {
	var scopes [][]int
	for set := 1; set < 16; set++ {
		var scope []int
		for v := range 4 {
			if set>>v&1 == 1 {
				scope = append(scope, v)
			}
		}
		scopes = append(scopes, scope)
	}
	for _, a := range scopes {
		for _, b := range scopes {
			checkPrimal(t, 4, [][]int{a, b}, nil)
			checkPrimal(t, 4, [][]int{a}, [][]int{b})
			checkPrimal(t, 4, nil, [][]int{a, b})
		}
	}
}

// As many constraints as there may be: each two variables that may stand together.
func TestPrimalOfManyScopes(t *testing.T) {
	var hard, soft [][]int
	for _, e := range pairs(40) {
		if len(hard) < api.MaxCons {
			hard = append(hard, e[:])
		} else if len(soft) < api.MaxCons {
			soft = append(soft, e[:])
		}
	}
	checkPrimal(t, 40, hard, soft)
}
