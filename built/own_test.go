package built

import (
	"slices"
	"testing"

	"arborist/api"
)

const room = -77

// withRoom hands out a list with room behind it, as a call that appends to it would write there.
func withRoom[T any](l []T, behind T) []T { return append(slices.Clone(l), behind, behind)[:len(l)] }

func roomIsLeft[T comparable](l []T, behind T) bool {
	return slices.Equal(l[:len(l)+2][len(l):], []T{behind, behind})
}

func rowsWithRoom(rows [][]int) [][]int {
	out := withRoom(rows, nil)
	for i, t := range rows {
		out[i] = withRoom(t, room)
	}
	return out
}

func rowsIntact(in, was [][]int) bool {
	for _, t := range in {
		if !roomIsLeft(t, room) {
			return false
		}
	}
	behind := in[:len(in)+2][len(in):]
	return slices.EqualFunc(in, was, slices.Equal) && behind[0] == nil && behind[1] == nil
}

func listIntact(in, was []int) bool { return slices.Equal(in, was) && roomIsLeft(in, room) }

func overwriteList[T any](l []T, with T) {
	l = l[:cap(l)]
	for i := range l {
		l[i] = with
	}
}

func overwriteRows(rows [][]int) {
	for _, t := range rows {
		overwriteList(t, 1000)
	}
	overwriteList(rows, []int{-5})
}

func deepCopy(r api.Rel) api.Rel {
	out := api.Rel{Scheme: slices.Clone(r.Scheme)}
	for _, t := range r.Rows {
		out.Rows = append(out.Rows, slices.Clone(t))
	}
	return out
}

// checkOwn fails where writing into one list of an answer is seen in another one.
func checkOwn(t *testing.T, got api.Rel) {
	t.Helper()
	want := deepCopy(got)
	for i := range got.Rows {
		overwriteList(got.Rows[i], 1000)
		got.Rows[i] = want.Rows[i]
		if !same(got, want) {
			t.Fatalf("row %d is seen elsewhere: %v, not %v", i, got, want)
		}
	}
	overwriteList(got.Scheme, 1000)
	got.Scheme = want.Scheme
	if !same(got, want) {
		t.Fatalf("the scheme is seen elsewhere: %v, not %v", got, want)
	}
}

func TestFullKeepsNothing(t *testing.T) {
	for _, scope := range append(scopes(), nil) {
		for _, most := range []int{100, 1} {
			domains, vars := rowsWithRoom(smallDomains()), withRoom(scope, room)
			got, _ := Full(domains, vars, most)
			want := deepCopy(got)
			if !rowsIntact(domains, smallDomains()) || !listIntact(vars, scope) {
				t.Fatalf("changed: %v %v", domains, vars)
			}
			overwriteRows(domains)
			overwriteList(vars, 1000)
			if !same(got, want) {
				t.Fatalf("the answer hangs on what was handed in: %v, not %v", got, want)
			}
			checkOwn(t, got)
		}
	}
}

func TestConstraintsAreNotKept(t *testing.T) {
	for _, was := range smallConstraints() {
		domains := rowsWithRoom(smallDomains())
		c := api.Constraint{Kind: was.Kind, Scope: withRoom(was.Scope, room), Rows: rowsWithRoom(was.Rows), Args: withRoom(was.Args, room)}
		values := withRoom(upTo(len(c.Scope)), room)
		Holds(c, values)
		got, _ := Table(domains, c, 100)
		Table(domains, c, 1)
		want := deepCopy(got)
		if !rowsIntact(domains, smallDomains()) || !listIntact(c.Scope, was.Scope) || !rowsIntact(c.Rows, was.Rows) || !listIntact(c.Args, was.Args) || !listIntact(values, upTo(len(c.Scope))) {
			t.Fatalf("changed: %v %v %v, from %v", domains, c, values, was)
		}
		overwriteRows(domains)
		overwriteRows(c.Rows)
		overwriteList(c.Scope, 1000)
		overwriteList(c.Args, 1000)
		if !same(got, want) {
			t.Fatalf("the answer hangs on what was handed in: %v, not %v", got, want)
		}
		checkOwn(t, got)
	}
}

func TestCostsKeepNothing(t *testing.T) {
	for _, scope := range scopes() {
		rows := rowsOf(domainsOf(smallDomains(), scope)...)
		rows = rows[:(len(rows)+1)/2]
		costs := make([]int64, len(rows))
		domains := rowsWithRoom(smallDomains())
		s := api.Soft{Scope: withRoom(scope, room), Rows: rowsWithRoom(rows), Costs: withRoom(costs, room), Default: 3}
		values := withRoom(rows[0], room)
		Cost(s, values)
		Costs(domains, s, 0)
		got, _ := Costs(domains, s, 100)
		want, weights := deepCopy(got.Rel), slices.Clone(got.W)
		if !rowsIntact(domains, smallDomains()) || !listIntact(s.Scope, scope) || !rowsIntact(s.Rows, rows) || !slices.Equal(s.Costs, costs) || !roomIsLeft(s.Costs, room) || !listIntact(values, rows[0]) {
			t.Fatalf("changed: %v %v %v", domains, s, values)
		}
		overwriteRows(domains)
		overwriteRows(s.Rows)
		overwriteList(s.Scope, 1000)
		overwriteList(s.Costs, 1000)
		if !same(got.Rel, want) || !slices.Equal(got.W, weights) {
			t.Fatalf("the answer hangs on what was handed in: %v, not %v %v", got, want, weights)
		}
		checkOwn(t, got.Rel)
	}
}
