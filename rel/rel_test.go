package rel

import (
	"math"
	"slices"
	"testing"

	"arborist/api"
)

func relOf(scheme []int, rows ...[]int) api.Rel { return api.Rel{Scheme: scheme, Rows: rows} }

// same and right are told here anew, so that a fault of the package does not hide itself.
func same(a, b api.Rel) bool {
	return slices.Equal(a.Scheme, b.Scheme) && slices.EqualFunc(a.Rows, b.Rows, slices.Equal)
}

func right(r api.Rel) bool {
	for i, v := range r.Scheme {
		if v < 0 || i > 0 && r.Scheme[i-1] >= v {
			return false
		}
	}
	for i, t := range r.Rows {
		if len(t) != len(r.Scheme) || i > 0 && slices.Compare(r.Rows[i-1], t) >= 0 {
			return false
		}
	}
	return true
}

func empty(r api.Rel) bool { return len(r.Scheme) == 0 && len(r.Rows) == 0 }

// copyOf hands out lists with room behind them, as a call that appends to one would write there.
func copyOf(r api.Rel) api.Rel {
	rows := make([][]int, len(r.Rows), len(r.Rows)+2)
	for i, t := range r.Rows {
		rows[i] = withRoom(t)
	}
	return api.Rel{Scheme: withRoom(r.Scheme), Rows: rows}
}

const room = -77

func withRoom(a []int) []int { return append(slices.Clone(a), room, room)[:len(a)] }

func intact(in, was []int) bool {
	return slices.Equal(in, was) && slices.Equal(in[:len(was)+2][len(was):], []int{room, room})
}

func intactRel(in, was api.Rel) bool {
	if !same(in, was) || !intact(in.Scheme, was.Scheme) {
		return false
	}
	for i := range in.Rows {
		if !intact(in.Rows[i], was.Rows[i]) {
			return false
		}
	}
	behind := in.Rows[:cap(in.Rows)][len(in.Rows):]
	return !slices.ContainsFunc(behind, func(t []int) bool { return t != nil })
}

func overwrite(a []int) {
	for i := range a {
		a[i] = 1000 + i
	}
}

func overwriteRel(r api.Rel) {
	overwrite(r.Scheme[:cap(r.Scheme)])
	for i, t := range r.Rows {
		overwrite(t[:cap(t)])
		r.Rows[i] = []int{-5}
	}
}

// ownRows fails where writing into one list of an answer is seen in another one.
func ownRows(t *testing.T, got api.Rel) {
	t.Helper()
	want := copyOf(got)
	for i := range got.Rows {
		overwrite(got.Rows[i][:cap(got.Rows[i])])
		got.Rows[i] = want.Rows[i]
		if !same(got, want) {
			t.Fatalf("lists of one answer share memory: %v", want)
		}
	}
	overwrite(got.Scheme[:cap(got.Scheme)])
	if !same(api.Rel{Rows: got.Rows}, api.Rel{Rows: want.Rows}) {
		t.Fatalf("the scheme shares memory with a row: %v", want)
	}
}

// rightRels lists every right relation over a scheme whose rows have numbers below kinds.
func rightRels(scheme []int, kinds int) []api.Rel {
	rows := [][]int{{}}
	for range scheme {
		var longer [][]int
		for _, t := range rows {
			for n := range kinds {
				longer = append(longer, append(slices.Clone(t), n))
			}
		}
		rows = longer
	}
	out := []api.Rel{}
	for set := range 1 << len(rows) {
		r := api.Rel{Scheme: scheme}
		for i, t := range rows {
			if set>>i&1 == 1 {
				r.Rows = append(r.Rows, t)
			}
		}
		out = append(out, r)
	}
	return out
}

func smallRels() []api.Rel {
	return slices.Concat(rightRels(nil, 2), rightRels([]int{1}, 3), rightRels([]int{0, 2}, 2), rightRels([]int{0, 2, 3}, 2))
}

func hasRow(rows [][]int, t []int) bool {
	return slices.ContainsFunc(rows, func(u []int) bool { return slices.Equal(t, u) })
}

func TestRight(t *testing.T) {
	for i, c := range []struct {
		r    api.Rel
		want bool
	}{
		{relOf(nil), true},
		{relOf([]int{}), true},
		{relOf(nil, nil), true},
		{relOf(nil, []int{}), true},
		{relOf([]int{0}), true},
		{relOf([]int{0, 3}, []int{-5, 2}, []int{-5, 3}, []int{0, 0}), true},
		{relOf([]int{math.MaxInt}, []int{math.MinInt}, []int{math.MaxInt}), true},
		{relOf(nil, nil, nil), false},
		{relOf(nil, []int{}, []int{}), false},
		{relOf(nil, []int{1}), false},
		{relOf([]int{-1}), false},
		{relOf([]int{math.MinInt, 3}), false},
		{relOf([]int{-1, 0}, []int{1, 2}), false},
		{relOf([]int{1, 1}), false},
		{relOf([]int{2, 1}), false},
		{relOf([]int{0, 2, 1}), false},
		{relOf([]int{1}, []int{}), false},
		{relOf([]int{1}, nil), false},
		{relOf([]int{1}, []int{2, 3}), false},
		{relOf([]int{1}, []int{1}, []int{2, 3}), false},
		{relOf([]int{1, 2}, []int{1}, []int{2, 3}), false},
		{relOf([]int{1}, []int{2}, []int{2}), false},
		{relOf([]int{1}, []int{3}, []int{2}), false},
		{relOf([]int{1, 2}, []int{0, 1}, []int{1, 0}, []int{0, 2}), false},
	} {
		if got := Right(c.r); got != c.want {
			t.Errorf("case %d: %v, not %v", i, got, c.want)
		}
	}
}

func TestMake(t *testing.T) {
	for i, c := range []struct{ in, want api.Rel }{
		{relOf(nil), relOf(nil)},
		{relOf(nil, nil), relOf(nil, []int{})},
		{relOf(nil, nil, []int{}, nil), relOf(nil, []int{})},
		{relOf([]int{5}), relOf([]int{5})},
		{relOf([]int{2, 0}), relOf([]int{0, 2})},
		{relOf([]int{2, 0}, []int{5, 1}), relOf([]int{0, 2}, []int{1, 5})},
		{relOf([]int{0}, []int{3}, []int{2}, []int{3}), relOf([]int{0}, []int{2}, []int{3})},
		{relOf([]int{3, 1}, []int{5, 0}, []int{4, 1}, []int{5, 0}), relOf([]int{1, 3}, []int{0, 5}, []int{1, 4})},
		{relOf([]int{4, 9, 2}, []int{1, 2, 3}, []int{-1, -2, 3}, []int{0, 0, 0}),
			relOf([]int{2, 4, 9}, []int{0, 0, 0}, []int{3, -1, -2}, []int{3, 1, 2})},
		{relOf([]int{math.MaxInt, 0}, []int{math.MinInt, math.MaxInt}), relOf([]int{0, math.MaxInt}, []int{math.MaxInt, math.MinInt})},
	} {
		got, e := Make(c.in.Scheme, c.in.Rows)
		if e != api.OK || !same(got, c.want) {
			t.Errorf("case %d: %v %v, not %v", i, got, e, c.want)
		}
	}
}

func TestMakeRefuses(t *testing.T) {
	for i, c := range []api.Rel{
		relOf([]int{-1}),
		relOf([]int{0, -1}, []int{1, 2}),
		relOf([]int{math.MinInt, 3}),
		relOf([]int{1, 1}, []int{1, 1}),
		relOf([]int{2, 0, 2}, []int{1, 1, 1}),
		relOf([]int{0}, nil),
		relOf([]int{0}, []int{1}, []int{}),
		relOf([]int{0}, []int{1}, []int{1, 2}),
		relOf([]int{1, 0}, []int{1, 2}, []int{1}),
		relOf(nil, []int{1}),
		relOf(nil, []int{}, []int{1}),
	} {
		if got, e := Make(c.Scheme, c.Rows); e != api.ErrArg || !empty(got) {
			t.Errorf("case %d: %v %v", i, got, e)
		}
	}
}

// TestMakeOfEveryScheme holds Make against each order of three variables, and each two rows.
func TestMakeOfEveryScheme(t *testing.T) {
	rows := rightRels([]int{0, 1, 2}, 2)
	all := rows[len(rows)-1].Rows
	for n := range 4 * 4 * 4 {
		scheme := []int{n / 16, n / 4 % 4, n % 4}
		for i, a := range all {
			in := [][]int{a, all[(i*3+1)%8]}
			got, e := Make(scheme, in)
			if scheme[0] == scheme[1] || scheme[0] == scheme[2] || scheme[1] == scheme[2] {
				if e != api.ErrArg || !empty(got) {
					t.Fatalf("Make(%v, %v): %v %v", scheme, in, got, e)
				}
				continue
			}
			if e != api.OK || !right(got) || !means(got, scheme, in) {
				t.Fatalf("Make(%v, %v): %v %v", scheme, in, got, e)
			}
		}
	}
}

// means tells whether r has just these rows, each variable its own number.
func means(r api.Rel, scheme []int, rows [][]int) bool {
	if len(r.Scheme) != len(scheme) {
		return false
	}
	turned := [][]int{}
	for _, t := range r.Rows {
		row := []int{}
		for _, v := range scheme {
			row = append(row, t[slices.Index(r.Scheme, v)])
		}
		turned = append(turned, row)
	}
	for _, t := range rows {
		if !hasRow(turned, t) {
			return false
		}
	}
	return !slices.ContainsFunc(turned, func(u []int) bool { return !hasRow(rows, u) })
}

func TestUnit(t *testing.T) {
	u := Unit()
	if !right(u) || !same(u, relOf(nil, []int{})) {
		t.Fatalf("%v", u)
	}
	u.Rows[0] = append(u.Rows[0], 7)
	u.Scheme = append(u.Scheme, 3)
	if again := Unit(); !same(again, relOf(nil, []int{})) {
		t.Errorf("hangs on what was answered before: %v", again)
	}
}

func TestSame(t *testing.T) {
	for i, c := range []struct {
		a, b api.Rel
		want bool
	}{
		{relOf(nil), relOf([]int{}), true},
		{api.Rel{}, api.Rel{Scheme: []int{}, Rows: [][]int{}}, true},
		{relOf(nil, nil), relOf(nil, []int{}), true},
		{relOf(nil, nil), relOf(nil), false},
		{relOf([]int{1}), relOf([]int{1}), true},
		{relOf([]int{1}), relOf([]int{2}), false},
		{relOf([]int{1}), relOf(nil), false},
		{relOf([]int{1}), relOf([]int{1, 2}), false},
		{relOf([]int{1, 3}, []int{0, 5}, []int{1, 4}), relOf([]int{1, 3}, []int{0, 5}, []int{1, 4}), true},
		{relOf([]int{1, 3}, []int{0, 5}), relOf([]int{1, 4}, []int{0, 5}), false},
		{relOf([]int{1, 3}, []int{0, 5}, []int{1, 4}), relOf([]int{1, 3}, []int{0, 5}), false},
		{relOf([]int{1, 3}, []int{0, 5}), relOf([]int{1, 3}, []int{0, 6}), false},
		{relOf([]int{1, 3}, []int{0, 5}), relOf([]int{1, 3}, []int{0, 5}, []int{1, 4}), false},
	} {
		if Same(c.a, c.b) != c.want || Same(c.b, c.a) != c.want {
			t.Errorf("case %d: not %v", i, c.want)
		}
	}
}

func TestSameOfEveryPair(t *testing.T) {
	rels := slices.Concat(rightRels(nil, 2), rightRels([]int{1}, 3), rightRels([]int{2}, 3), rightRels([]int{0, 2}, 2))
	for i, a := range rels {
		for k, b := range rels {
			if Same(a, copyOf(b)) != (i == k) {
				t.Fatalf("Same(%v, %v) is not %v", a, b, i == k)
			}
		}
	}
}

func TestHas(t *testing.T) {
	r := relOf([]int{1, 3}, []int{-2, 5}, []int{0, 5}, []int{1, 4})
	for i, c := range []struct {
		r    api.Rel
		t    []int
		want bool
	}{
		{r, []int{-2, 5}, true},
		{r, []int{0, 5}, true},
		{r, []int{1, 4}, true},
		{r, []int{1, 5}, false},
		{r, []int{5, 0}, false},
		{r, []int{1}, false},
		{r, []int{1, 4, 0}, false},
		{r, nil, false},
		{relOf(nil, nil), nil, true},
		{relOf(nil, nil), []int{}, true},
		{relOf(nil, nil), []int{0}, false},
		{relOf(nil), nil, false},
		{relOf([]int{1}), nil, false},
		{relOf([]int{1}), []int{0}, false},
		{relOf([]int{1}, []int{3}, []int{2}, []int{1}), []int{3}, true},
		{relOf([]int{1}, []int{3}, []int{2}, []int{1}), []int{0}, false},
	} {
		if got := Has(c.r, c.t); got != c.want {
			t.Errorf("case %d: %v, not %v", i, got, c.want)
		}
	}
}

func TestHasJustItsRows(t *testing.T) {
	for _, r := range rightRels([]int{0, 2, 3}, 2) {
		for n := range 8 {
			row := []int{n / 4, n / 2 % 2, n % 2}
			if Has(r, row) != hasRow(r.Rows, row) {
				t.Fatalf("Has(%v, %v)", r, row)
			}
		}
	}
}

func TestProject(t *testing.T) {
	r := relOf([]int{1, 3, 6}, []int{0, 5, 2}, []int{1, 4, 2}, []int{2, 4, 2})
	for i, c := range []struct {
		r    api.Rel
		vars []int
		want api.Rel
	}{
		{r, nil, Unit()},
		{r, []int{9, -1, 0, math.MinInt, math.MaxInt}, Unit()},
		{r, []int{3}, relOf([]int{3}, []int{4}, []int{5})},
		{r, []int{9, 3, 3}, relOf([]int{3}, []int{4}, []int{5})},
		{r, []int{6, 3}, relOf([]int{3, 6}, []int{4, 2}, []int{5, 2})},
		{r, []int{6, 1, 3}, r},
		{r, []int{6, 1}, relOf([]int{1, 6}, []int{0, 2}, []int{1, 2}, []int{2, 2})},
		{relOf([]int{1, 3}), []int{3}, relOf([]int{3})},
		{relOf([]int{1, 3}), nil, relOf(nil)},
		{relOf(nil), []int{1}, relOf(nil)},
		{Unit(), []int{1}, Unit()},
	} {
		if got := Project(c.r, c.vars); !same(got, c.want) {
			t.Errorf("case %d: %v, not %v", i, got, c.want)
		}
	}
}

// TestProjectKeepsAllRowsCut holds both ways: no row is lost, and none is made.
func TestProjectKeepsAllRowsCut(t *testing.T) {
	for _, r := range smallRels() {
		for _, vars := range [][]int{nil, {0}, {2, 0}, {3, 1, 3}, {1, 2}, {3, 2, 0}, {-1, 3, 0}} {
			got := Project(r, vars)
			want := [][]int{}
			scheme := []int{}
			for _, v := range r.Scheme {
				if slices.Contains(vars, v) {
					scheme = append(scheme, v)
				}
			}
			for _, row := range r.Rows {
				part := []int{}
				for i, v := range r.Scheme {
					if slices.Contains(vars, v) {
						part = append(part, row[i])
					}
				}
				want = append(want, part)
			}
			slices.SortFunc(want, slices.Compare)
			want = slices.CompactFunc(want, slices.Equal)
			if !right(got) || !same(got, relOf(scheme, want...)) {
				t.Fatalf("Project(%v, %v): %v", r, vars, got)
			}
		}
	}
}

func TestSelect(t *testing.T) {
	r := relOf([]int{1, 3}, []int{0, 5}, []int{1, 4}, []int{1, 5}, []int{5, 0})
	for i, c := range []struct {
		r        api.Rel
		v, value int
		want     api.Rel
	}{
		{r, 3, 5, relOf([]int{1, 3}, []int{0, 5}, []int{1, 5})},
		{r, 1, 1, relOf([]int{1, 3}, []int{1, 4}, []int{1, 5})},
		{r, 1, 5, relOf([]int{1, 3}, []int{5, 0})},
		{r, 1, 7, relOf([]int{1, 3})},
		{r, 2, 5, r},
		{r, 0, 0, r},
		{r, -1, 5, r},
		{r, math.MinInt, 5, r},
		{r, math.MaxInt, 5, r},
		{Unit(), 0, 0, Unit()},
		{relOf(nil), 0, 0, relOf(nil)},
		{relOf([]int{4}), 4, 0, relOf([]int{4})},
	} {
		if got := Select(c.r, c.v, c.value); !same(got, c.want) {
			t.Errorf("case %d: %v, not %v", i, got, c.want)
		}
	}
}

func TestSelectJustTheRowsWithTheValue(t *testing.T) {
	for _, r := range smallRels() {
		for v := -1; v < 5; v++ {
			for value := -1; value < 3; value++ {
				at := slices.Index(r.Scheme, v)
				want := api.Rel{Scheme: r.Scheme}
				for _, row := range r.Rows {
					if at < 0 || row[at] == value {
						want.Rows = append(want.Rows, row)
					}
				}
				if got := Select(r, v, value); !right(got) || !same(got, want) {
					t.Fatalf("Select(%v, %d, %d): %v", r, v, value, got)
				}
			}
		}
	}
}

func TestUnion(t *testing.T) {
	a := relOf([]int{1, 3}, []int{0, 5}, []int{1, 4})
	for i, c := range []struct{ a, b, want api.Rel }{
		{a, relOf([]int{1, 3}, []int{0, 6}, []int{1, 4}), relOf([]int{1, 3}, []int{0, 5}, []int{0, 6}, []int{1, 4})},
		{a, relOf([]int{1, 3}, []int{-1, 6}, []int{2, 0}), relOf([]int{1, 3}, []int{-1, 6}, []int{0, 5}, []int{1, 4}, []int{2, 0})},
		{a, a, a},
		{a, relOf([]int{1, 3}), a},
		{relOf([]int{1, 3}), relOf([]int{1, 3}), relOf([]int{1, 3})},
		{relOf(nil), relOf([]int{}), relOf(nil)},
		{Unit(), relOf(nil), Unit()},
		{Unit(), Unit(), Unit()},
	} {
		for _, pair := range [][2]api.Rel{{c.a, c.b}, {c.b, c.a}} {
			if got, e := Union(pair[0], pair[1]); e != api.OK || !same(got, c.want) {
				t.Errorf("case %d: %v %v, not %v", i, got, e, c.want)
			}
		}
	}
}

func TestUnionRefuses(t *testing.T) {
	a := relOf([]int{1, 3}, []int{0, 5})
	for i, b := range []api.Rel{
		Unit(),
		relOf(nil),
		relOf([]int{1}, []int{0}),
		relOf([]int{1, 2}, []int{0, 5}),
		relOf([]int{1, 3, 4}, []int{0, 5, 6}),
		relOf([]int{1, 3, 4}),
	} {
		if got, e := Union(a, b); e != api.ErrArg || !empty(got) {
			t.Errorf("case %d: %v %v", i, got, e)
		}
		if got, e := Union(b, a); e != api.ErrArg || !empty(got) {
			t.Errorf("case %d the other way round: %v %v", i, got, e)
		}
	}
}

func TestUnionOfEveryPair(t *testing.T) {
	for _, rels := range [][]api.Rel{rightRels([]int{0, 2}, 2), rightRels([]int{4}, 4), rightRels(nil, 1)} {
		full := rels[len(rels)-1]
		for i, a := range rels {
			for k, b := range rels {
				want := api.Rel{Scheme: a.Scheme}
				for n, row := range full.Rows {
					if (i|k)>>n&1 == 1 {
						want.Rows = append(want.Rows, row)
					}
				}
				if got, e := Union(a, b); e != api.OK || !right(got) || !same(got, want) {
					t.Fatalf("Union(%v, %v): %v %v", a, b, got, e)
				}
			}
		}
	}
}

func TestValues(t *testing.T) {
	r := relOf([]int{1, 3}, []int{-4, 5}, []int{0, 5}, []int{1, -4}, []int{1, 4})
	for i, c := range []struct {
		r    api.Rel
		v    int
		want []int
	}{
		{r, 1, []int{-4, 0, 1}},
		{r, 3, []int{-4, 4, 5}},
		{r, 0, nil},
		{r, 2, nil},
		{r, 4, nil},
		{r, -1, nil},
		{r, math.MinInt, nil},
		{r, math.MaxInt, nil},
		{relOf([]int{1}), 1, nil},
		{Unit(), 0, nil},
		{relOf(nil), 0, nil},
	} {
		if got := Values(c.r, c.v); !slices.Equal(got, c.want) {
			t.Errorf("case %d: %v, not %v", i, got, c.want)
		}
	}
}

func TestValuesAreThoseOfTheRows(t *testing.T) {
	for _, r := range smallRels() {
		for v := -1; v < 5; v++ {
			want := []int{}
			for value := range 3 {
				at := slices.Index(r.Scheme, v)
				if at >= 0 && slices.ContainsFunc(r.Rows, func(row []int) bool { return row[at] == value }) {
					want = append(want, value)
				}
			}
			if got := Values(r, v); !slices.Equal(got, want) {
				t.Fatalf("Values(%v, %d): %v", r, v, got)
			}
		}
	}
}

// TestMakeSharesNothing also hands in what is right already, as then nothing has to move.
func TestMakeSharesNothing(t *testing.T) {
	for _, in := range append(smallRels(), relOf([]int{2, 0}, []int{5, 1}, []int{4, 1}, []int{5, 1})) {
		given := copyOf(in)
		got, _ := Make(given.Scheme, given.Rows)
		want := copyOf(got)
		if !intactRel(given, in) {
			t.Fatalf("Make changed %v into %v", in, given)
		}
		overwriteRel(given)
		if !same(got, want) {
			t.Fatalf("Make(%v) hangs on what was handed in: %v", in, got)
		}
		ownRows(t, got)
	}
}

func TestMakeThatRefusesChangesNothing(t *testing.T) {
	for _, in := range []api.Rel{relOf([]int{3, 3, 1}, []int{3, 2, 1}), relOf([]int{3, 1}, []int{2, 1}, []int{1})} {
		given := copyOf(in)
		if Make(given.Scheme, given.Rows); !intactRel(given, in) {
			t.Errorf("Make changed %v into %v", in, given)
		}
	}
}

func TestPartsShareNothing(t *testing.T) {
	vars := []int{3, 0, 2, 1, 0}
	calls := map[string]func(r api.Rel) api.Rel{
		"Project":        func(r api.Rel) api.Rel { return Project(r, vars) },
		"Project to one": func(r api.Rel) api.Rel { return Project(r, vars[1:2]) },
		"Select":         func(r api.Rel) api.Rel { return Select(r, 2, 1) },
		"Select all":     func(r api.Rel) api.Rel { return Select(r, 9, 1) },
	}
	for name, call := range calls {
		for _, in := range smallRels() {
			given := copyOf(in)
			got := call(given)
			want := copyOf(got)
			if !intactRel(given, in) || !slices.Equal(vars, []int{3, 0, 2, 1, 0}) {
				t.Fatalf("%s(%v) changed what it was handed", name, in)
			}
			overwriteRel(given)
			if !same(got, want) {
				t.Fatalf("%s(%v) hangs on what was handed in: %v", name, in, got)
			}
			ownRows(t, got)
		}
	}
}

func TestUnionSharesNothing(t *testing.T) {
	rels := rightRels([]int{0, 2}, 2)
	for _, a := range rels {
		for _, b := range rels {
			givenA, givenB := copyOf(a), copyOf(b)
			got, _ := Union(givenA, givenB)
			want := copyOf(got)
			if !intactRel(givenA, a) || !intactRel(givenB, b) {
				t.Fatalf("Union(%v, %v) changed what it was handed", a, b)
			}
			overwriteRel(givenA)
			overwriteRel(givenB)
			if !same(got, want) {
				t.Fatalf("Union(%v, %v) hangs on what was handed in: %v", a, b, got)
			}
			ownRows(t, got)
		}
	}
}

func TestQuestionsChangeNothing(t *testing.T) {
	in := relOf([]int{1, 3}, []int{0, 5}, []int{1, 4}, []int{1, 5})
	given, row := copyOf(in), []int{1, 4}
	values := Values(given, 3)
	Right(given)
	Same(given, given)
	Has(given, row)
	if !intactRel(given, in) || !slices.Equal(row, []int{1, 4}) {
		t.Errorf("changed: %v %v", given, row)
	}
	overwriteRel(given)
	if !slices.Equal(values, []int{4, 5}) {
		t.Errorf("Values hangs on what was handed in: %v", values)
	}
}

// TestWhatIsNotRightEnds holds that calls end, and do not panic, on relations of which nothing else is promised.
func TestWhatIsNotRightEnds(t *testing.T) {
	for _, r := range []api.Rel{
		relOf([]int{1, 2}, nil, []int{1}, []int{1, 2, 3}),
		relOf([]int{2, 1, 2}, []int{0, 1}, nil, []int{4}),
		relOf([]int{-1, 3}, []int{5}),
		relOf(nil, []int{1}, []int{2, 3}),
		relOf([]int{0}, []int{2}, []int{1}, []int{2}),
	} {
		for v := -2; v < 4; v++ {
			Project(r, []int{v, 1})
			Select(r, v, 1)
			Values(r, v)
		}
		Union(r, r)
		Union(r, Unit())
		Has(r, []int{1})
		Same(r, Unit())
	}
}
