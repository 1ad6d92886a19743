package join

import (
	"math"
	"slices"
	"testing"

	"arborist/api"
)

func relOf(scheme []int, rows ...[]int) api.Rel { return api.Rel{Scheme: scheme, Rows: rows} }

func unit() api.Rel { return relOf(nil, []int{}) }

// same and right are told here anew, so that a fault of a layer below does not hide itself.
func same(a, b api.Rel) bool {
	return slices.Equal(a.Scheme, b.Scheme) && slices.EqualFunc(a.Rows, b.Rows, slices.Equal)
}

func right(r api.Rel) bool {
	for i, v := range r.Scheme {
		if v < 0 || i > 0 && r.Scheme[i-1] >= v {
			return false
		}
	}
	for i, t := range r.Rows {
		if len(t) != len(r.Scheme) || i > 0 && slices.Compare(r.Rows[i-1], t) >= 0 {
			return false
		}
	}
	return true
}

func empty(r api.Rel) bool { return len(r.Scheme) == 0 && len(r.Rows) == 0 }

func hasRow(rows [][]int, t []int) bool {
	return slices.ContainsFunc(rows, func(u []int) bool { return slices.Equal(t, u) })
}

// rowsOf lists every row of this width whose numbers are below kinds.
func rowsOf(width, kinds int) [][]int {
	rows := [][]int{{}}
	for range width {
		var longer [][]int
		for _, t := range rows {
			for n := range kinds {
				longer = append(longer, append(slices.Clone(t), n))
			}
		}
		rows = longer
	}
	return rows
}

// rightRels lists every right relation over a scheme whose rows have numbers below kinds.
func rightRels(scheme []int, kinds int) []api.Rel {
	rows := rowsOf(len(scheme), kinds)
	out := []api.Rel{}
	for set := range 1 << len(rows) {
		r := api.Rel{Scheme: scheme}
		for i, t := range rows {
			if set>>i&1 == 1 {
				r.Rows = append(r.Rows, t)
			}
		}
		out = append(out, r)
	}
	return out
}

// everySeventh thins a list out, where all pairs would be too many.
func everySeventh(l []api.Rel) []api.Rel {
	out := []api.Rel{}
	for i := 0; i < len(l); i += 7 {
		out = append(out, l[i])
	}
	return append(out, l[len(l)-1])
}

func smallRels() []api.Rel {
	return slices.Concat(rightRels(nil, 2), rightRels([]int{0}, 2), rightRels([]int{1}, 2), rightRels([]int{0, 2}, 2),
		rightRels([]int{1, 2}, 2), rightRels([]int{1, 3}, 2), everySeventh(rightRels([]int{0, 1, 2}, 2)))
}

// unionOf and meetOf tell the variables of both, all of them, and those that are shared.
func unionOf(a, b []int) []int {
	all := slices.Concat(a, b)
	slices.Sort(all)
	return slices.Compact(all)
}

func meetOf(a, b []int) []int {
	out := []int{}
	for _, v := range a {
		if slices.Contains(b, v) {
			out = append(out, v)
		}
	}
	return out
}

func cutTo(scheme, t, vars []int) []int {
	out := []int{}
	for i, v := range scheme {
		if slices.Contains(vars, v) {
			out = append(out, t[i])
		}
	}
	return out
}

// joined goes through all rows that there may be of numbers below 2, as C1 tells what a join is.
func joined(a, b api.Rel) api.Rel {
	all := api.Rel{Scheme: unionOf(a.Scheme, b.Scheme)}
	for _, t := range rowsOf(len(all.Scheme), 2) {
		if hasRow(a.Rows, cutTo(all.Scheme, t, a.Scheme)) && hasRow(b.Rows, cutTo(all.Scheme, t, b.Scheme)) {
			all.Rows = append(all.Rows, t)
		}
	}
	return all
}

func semijoined(a, b api.Rel) api.Rel {
	both := meetOf(a.Scheme, b.Scheme)
	out := api.Rel{Scheme: a.Scheme}
	for _, t := range a.Rows {
		if slices.ContainsFunc(b.Rows, func(u []int) bool {
			return slices.Equal(cutTo(a.Scheme, t, both), cutTo(b.Scheme, u, both))
		}) {
			out.Rows = append(out.Rows, t)
		}
	}
	return out
}

// threes are two relations that share the variable 2 alone.
func threes() (api.Rel, api.Rel) {
	return relOf([]int{0, 2}, []int{1, 5}, []int{1, 6}, []int{2, 5}), relOf([]int{1, 2}, []int{8, 5}, []int{9, 5}, []int{9, 7})
}

func TestJoin(t *testing.T) {
	a, b := threes()
	for i, c := range []struct{ a, b, want api.Rel }{
		{relOf([]int{0}, []int{1}, []int{2}), relOf([]int{1}, []int{5}), relOf([]int{0, 1}, []int{1, 5}, []int{2, 5})},
		{a, b, relOf([]int{0, 1, 2}, []int{1, 8, 5}, []int{1, 9, 5}, []int{2, 8, 5}, []int{2, 9, 5})},
		{relOf([]int{3}, []int{0}, []int{4}, []int{7}), relOf([]int{3}, []int{-1}, []int{4}, []int{7}, []int{8}), relOf([]int{3}, []int{4}, []int{7})},
		{relOf([]int{1, 4}, []int{0, 3}, []int{1, 2}), relOf([]int{4}, []int{2}), relOf([]int{1, 4}, []int{1, 2})},
		{relOf([]int{1, 4}, []int{0, 3}, []int{1, 2}), relOf([]int{1, 4}, []int{0, 2}, []int{1, 3}), relOf([]int{1, 4})},
		{relOf([]int{1}, []int{2}), relOf([]int{0}, []int{3}, []int{4}), relOf([]int{0, 1}, []int{3, 2}, []int{4, 2})},
		{a, unit(), a},
		{a, relOf(nil), relOf([]int{0, 2})},
		{a, relOf([]int{7}), relOf([]int{0, 2, 7})},
		{unit(), unit(), unit()},
		{unit(), relOf(nil), relOf(nil)},
		{relOf(nil), relOf(nil), relOf(nil)},
		// Told without a space between, or without a sign, these would be the same of both.
		{relOf([]int{0, 1}, []int{1, 23}, []int{12, 3}), relOf([]int{0, 1}, []int{1, 23}), relOf([]int{0, 1}, []int{1, 23})},
		{relOf([]int{0, 1}, []int{1, 23}), relOf([]int{0, 1}, []int{12, 3}), relOf([]int{0, 1})},
		{relOf([]int{0}, []int{-1}, []int{1}), relOf([]int{0}, []int{1}), relOf([]int{0}, []int{1})},
		{relOf([]int{0, 1}, []int{1, -2}), relOf([]int{0, 1}, []int{1, 2}), relOf([]int{0, 1})},
		{relOf([]int{0}, []int{0}, []int{1 << 40}), relOf([]int{0}, []int{0}, []int{1 << 50}), relOf([]int{0}, []int{0})},
		{relOf([]int{0, math.MaxInt}, []int{math.MinInt, 1}, []int{math.MaxInt, 2}), relOf([]int{0}, []int{math.MinInt}),
			relOf([]int{0, math.MaxInt}, []int{math.MinInt, 1})},
	} {
		for _, most := range []int{len(c.want.Rows), math.MaxInt} {
			if got, e := Join(c.a, c.b, most); e != api.OK || !same(got, c.want) {
				t.Errorf("case %d: %v %v, not %v", i, got, e, c.want)
			}
			if got, e := Join(c.b, c.a, most); e != api.OK || !same(got, c.want) {
				t.Errorf("case %d, turned: %v %v, not %v", i, got, e, c.want)
			}
		}
		for _, most := range []int{len(c.want.Rows) - 1, -1, math.MinInt} {
			if got, e := Join(c.a, c.b, most); e != api.ErrRows || !empty(got) {
				t.Errorf("case %d, most %d: %v %v", i, most, got, e)
			}
		}
	}
}

// TestJoinOfEveryPair holds each join against all rows that there may be, with just as many rows as most, and one more.
func TestJoinOfEveryPair(t *testing.T) {
	rels := smallRels()
	for _, a := range rels {
		for _, b := range rels {
			want := joined(a, b)
			got, e := Join(a, b, len(want.Rows))
			if e != api.OK || !right(got) || !same(got, want) {
				t.Fatalf("Join(%v, %v): %v %v, not %v", a, b, got, e, want)
			}
			if got, e := Join(a, b, len(want.Rows)-1); e != api.ErrRows || !empty(got) {
				t.Fatalf("Join(%v, %v), one row too many: %v %v", a, b, got, e)
			}
		}
	}
}

func TestJoinOfManyRows(t *testing.T) {
	const n = 300
	a, b, want := api.Rel{Scheme: []int{1, 5}}, api.Rel{Scheme: []int{3, 5}}, api.Rel{Scheme: []int{1, 3, 5}}
	for i := range n {
		a.Rows = append(a.Rows, []int{i - 100, i % 10})
		b.Rows = append(b.Rows, []int{i * 7, i % 10})
		for k := i % 10; k < n; k += 10 {
			want.Rows = append(want.Rows, []int{i - 100, k * 7, i % 10})
		}
	}
	if got, e := Join(a, b, n*n/10); e != api.OK || !same(got, want) {
		t.Errorf("%d rows, %v", len(got.Rows), e)
	}
	if got, e := Join(a, b, n*n/10-1); e != api.ErrRows || !empty(got) {
		t.Errorf("one row too many: %v", e)
	}
}

// TestJoinStopsAtMost would not end in time if all rows were made first.
func TestJoinStopsAtMost(t *testing.T) {
	const n = 100000
	a, b := api.Rel{Scheme: []int{0}}, api.Rel{Scheme: []int{1}}
	for i := range n {
		a.Rows = append(a.Rows, []int{i})
		b.Rows = append(b.Rows, []int{i})
	}
	if got, e := Join(a, b, 1000); e != api.ErrRows || !empty(got) {
		t.Errorf("%d rows, %v", len(got.Rows), e)
	}
}

func TestJoinInAnyOrder(t *testing.T) {
	rels := slices.Concat(rightRels(nil, 2), everySeventh(rightRels([]int{0, 1}, 2)), everySeventh(rightRels([]int{1, 2}, 2)),
		everySeventh(rightRels([]int{0, 2}, 2)), rightRels([]int{3}, 2), everySeventh(everySeventh(rightRels([]int{0, 1, 2}, 2))))
	join := func(a, b api.Rel) api.Rel {
		r, e := Join(a, b, 1000)
		if e != api.OK {
			t.Fatalf("Join(%v, %v): %v", a, b, e)
		}
		return r
	}
	for _, a := range rels {
		for _, b := range rels {
			ab := join(a, b)
			if !same(ab, join(b, a)) {
				t.Fatalf("%v and %v, turned", a, b)
			}
			for _, c := range rels {
				want := join(ab, c)
				if !same(want, join(a, join(b, c))) || !same(want, join(join(c, a), b)) {
					t.Fatalf("%v, %v and %v hang on their order", a, b, c)
				}
			}
		}
	}
}

func TestAll(t *testing.T) {
	a, b := threes()
	ab := relOf([]int{0, 1, 2}, []int{1, 8, 5}, []int{1, 9, 5}, []int{2, 8, 5}, []int{2, 9, 5})
	for i, c := range []struct {
		l    []api.Rel
		most int
		want api.Rel
	}{
		{nil, 1, unit()},
		{nil, 0, unit()},
		{nil, -1, unit()},
		{[]api.Rel{}, math.MinInt, unit()},
		{[]api.Rel{a}, 3, a},
		{[]api.Rel{unit()}, 1, unit()},
		{[]api.Rel{relOf(nil)}, 0, relOf(nil)},
		{[]api.Rel{a, b}, 4, ab},
		{[]api.Rel{b, a, unit()}, 4, ab},
		{[]api.Rel{unit(), b, unit(), a, b}, 4, ab},
		{[]api.Rel{relOf([]int{9}), a, b}, 0, relOf([]int{0, 1, 2, 9})},
		{[]api.Rel{a, relOf([]int{9}), b}, 3, relOf([]int{0, 1, 2, 9})},
		{[]api.Rel{a, b, relOf([]int{1}, []int{8}), relOf([]int{0}, []int{2})}, 4, relOf([]int{0, 1, 2}, []int{2, 8, 5})},
		{[]api.Rel{relOf([]int{1}, []int{8}), relOf([]int{0}, []int{2}), a, b}, 1, relOf([]int{0, 1, 2}, []int{2, 8, 5})},
	} {
		if got, e := All(c.l, c.most); e != api.OK || !right(got) || !same(got, c.want) {
			t.Errorf("case %d: %v %v, not %v", i, got, e, c.want)
		}
	}
}

// TestAllTellsTheFirstError has lists where a join on the way has more rows than most, though the last one has not.
func TestAllTellsTheFirstError(t *testing.T) {
	a, b := threes()
	none := relOf([]int{9})
	for i, c := range []struct {
		l    []api.Rel
		most int
	}{
		{[]api.Rel{unit()}, 0},
		{[]api.Rel{relOf(nil)}, -1},
		{[]api.Rel{none}, math.MinInt},
		{[]api.Rel{a}, 2},
		{[]api.Rel{b, a}, 2},
		{[]api.Rel{a, b}, 3},
		{[]api.Rel{a, none}, 2},
		{[]api.Rel{a, b, none}, 3},
		{[]api.Rel{a, b, relOf([]int{0}, []int{2})}, 3},
		{[]api.Rel{unit(), none}, 0},
	} {
		if got, e := All(c.l, c.most); e != api.ErrRows || !empty(got) {
			t.Errorf("case %d: %v %v", i, got, e)
		}
	}
}

func TestAllOfEveryThree(t *testing.T) {
	first, second, third := rightRels([]int{0, 1}, 2), rightRels([]int{1, 2}, 2), rightRels([]int{0, 2}, 2)
	for _, a := range first {
		for _, b := range second {
			for _, c := range third {
				steps := []api.Rel{a, joined(a, b), joined(joined(a, b), c)}
				need := max(len(steps[0].Rows), len(steps[1].Rows), len(steps[2].Rows))
				l := []api.Rel{a, b, c}
				if got, e := All(l, need); e != api.OK || !right(got) || !same(got, steps[2]) {
					t.Fatalf("All(%v): %v %v, not %v", l, got, e, steps[2])
				}
				if got, e := All(l, need-1); e != api.ErrRows || !empty(got) {
					t.Fatalf("All(%v), one row too many: %v %v", l, got, e)
				}
			}
		}
	}
}

func TestSemijoin(t *testing.T) {
	a, b := threes()
	for i, c := range []struct{ a, b, want api.Rel }{
		{a, b, relOf([]int{0, 2}, []int{1, 5}, []int{2, 5})},
		{b, a, relOf([]int{1, 2}, []int{8, 5}, []int{9, 5})},
		{a, a, a},
		{a, unit(), a},
		{a, relOf(nil), relOf([]int{0, 2})},
		{a, relOf([]int{7}), relOf([]int{0, 2})},
		{a, relOf([]int{7}, []int{5}, []int{6}), a},
		{a, relOf([]int{0, 2}, []int{1, 6}, []int{2, 6}), relOf([]int{0, 2}, []int{1, 6})},
		{a, relOf([]int{0, 2, 4}, []int{2, 5, 0}, []int{2, 5, 1}), relOf([]int{0, 2}, []int{2, 5})},
		{a, relOf([]int{2}), relOf([]int{0, 2})},
		{unit(), a, unit()},
		{unit(), unit(), unit()},
		{unit(), relOf([]int{3}), relOf(nil)},
		{relOf(nil), a, relOf(nil)},
		{relOf([]int{0, 1}, []int{1, 23}), relOf([]int{0, 1}, []int{12, 3}), relOf([]int{0, 1})},
		{relOf([]int{0}, []int{-1}, []int{1}), relOf([]int{0}, []int{1}), relOf([]int{0}, []int{1})},
		{relOf([]int{0}, []int{0}, []int{1 << 40}), relOf([]int{0}, []int{0}), relOf([]int{0}, []int{0})},
		{relOf([]int{0}, []int{math.MinInt}, []int{math.MaxInt}), relOf([]int{0}, []int{math.MinInt}), relOf([]int{0}, []int{math.MinInt})},
	} {
		if got := Semijoin(c.a, c.b); !same(got, c.want) {
			t.Errorf("case %d: %v, not %v", i, got, c.want)
		}
	}
}

func TestSemijoinOfEveryPair(t *testing.T) {
	rels := smallRels()
	for _, a := range rels {
		for _, b := range rels {
			want := semijoined(a, b)
			if got := Semijoin(a, b); !right(got) || !same(got, want) {
				t.Fatalf("Semijoin(%v, %v): %v, not %v", a, b, got, want)
			}
		}
	}
}

func TestAgree(t *testing.T) {
	a, b := threes()
	for i, c := range []struct {
		a, b api.Rel
		want bool
	}{
		{a, b, false},
		{a, a, true},
		{Semijoin(a, b), Semijoin(b, a), true},
		{Semijoin(a, b), b, false},
		{a, unit(), true},
		{a, relOf(nil), false},
		{a, relOf([]int{7}), false},
		{a, relOf([]int{7}, []int{1}), true},
		{relOf([]int{0}), relOf([]int{1}), true},
		{relOf([]int{0}), relOf([]int{0}), true},
		{relOf([]int{0}), relOf([]int{0}, []int{1}), false},
		{relOf([]int{0}, []int{1}), relOf([]int{0}, []int{2}), false},
		{unit(), unit(), true},
		{unit(), relOf(nil), false},
		{relOf(nil), relOf(nil), true},
		{a, relOf([]int{2, 3}, []int{5, 0}, []int{5, 1}, []int{6, 0}), true},
		{a, relOf([]int{2, 3}, []int{5, 0}, []int{5, 1}), false},
		{relOf([]int{0, 1}, []int{0, 0}, []int{1, 1}), relOf([]int{0, 1}, []int{0, 1}, []int{1, 0}), false},
	} {
		if Agree(c.a, c.b) != c.want || Agree(c.b, c.a) != c.want {
			t.Errorf("case %d: not %v", i, c.want)
		}
	}
}

// TestAgreeOfEveryPair goes by semijoins: two agree just if none takes a row from the other.
func TestAgreeOfEveryPair(t *testing.T) {
	rels := smallRels()
	for _, a := range rels {
		for _, b := range rels {
			want := same(semijoined(a, b), a) && same(semijoined(b, a), b)
			if Agree(a, b) != want {
				t.Fatalf("Agree(%v, %v) is not %v", a, b, want)
			}
		}
	}
}

const room = -77

// withRoom hands out a list with room behind it, as a call that appends to it would write there.
func withRoom(a []int) []int { return append(slices.Clone(a), room, room)[:len(a)] }

func copyOf(r api.Rel) api.Rel {
	rows := make([][]int, len(r.Rows), len(r.Rows)+2)
	for i, t := range r.Rows {
		rows[i] = withRoom(t)
	}
	return api.Rel{Scheme: withRoom(r.Scheme), Rows: rows}
}

func intact(in, was []int) bool {
	return slices.Equal(in, was) && slices.Equal(in[:len(was)+2][len(was):], []int{room, room})
}

func intactRel(in, was api.Rel) bool {
	if !same(in, was) || !intact(in.Scheme, was.Scheme) {
		return false
	}
	for i := range in.Rows {
		if !intact(in.Rows[i], was.Rows[i]) {
			return false
		}
	}
	behind := in.Rows[:cap(in.Rows)][len(in.Rows):]
	return !slices.ContainsFunc(behind, func(t []int) bool { return t != nil })
}

func overwrite(a []int) {
	for i := range a {
		a[i] = 1000 + i
	}
}

func overwriteRel(r api.Rel) {
	overwrite(r.Scheme[:cap(r.Scheme)])
	for i, t := range r.Rows {
		overwrite(t[:cap(t)])
		r.Rows[i] = []int{-5}
	}
}

// ownRows fails where writing into one list of an answer is seen in another one.
func ownRows(t *testing.T, got api.Rel) {
	t.Helper()
	want := copyOf(got)
	for i := range got.Rows {
		overwrite(got.Rows[i][:cap(got.Rows[i])])
		got.Rows[i] = want.Rows[i]
		if !same(got, want) {
			t.Fatalf("lists of one answer share memory: %v", want)
		}
	}
	overwrite(got.Scheme[:cap(got.Scheme)])
	if !same(api.Rel{Rows: got.Rows}, api.Rel{Rows: want.Rows}) {
		t.Fatalf("the scheme shares memory with a row: %v", want)
	}
}

// TestSharesNothing has among its calls those whose answer is just what was handed in, as then nothing has to be made.
func TestSharesNothing(t *testing.T) {
	calls := map[string]func(a, b api.Rel) api.Rel{
		"Join":           func(a, b api.Rel) api.Rel { r, _ := Join(a, b, 1000); return r },
		"Join too many":  func(a, b api.Rel) api.Rel { r, _ := Join(a, b, 1); return r },
		"Join with Unit": func(a, b api.Rel) api.Rel { r, _ := Join(a, unit(), 1000); return r },
		"Unit with":      func(a, b api.Rel) api.Rel { r, _ := Join(unit(), a, 1000); return r },
		"All":            func(a, b api.Rel) api.Rel { r, _ := All([]api.Rel{a, b, a}, 1000); return r },
		"All too many":   func(a, b api.Rel) api.Rel { r, _ := All([]api.Rel{a, b, a}, 1); return r },
		"All of one":     func(a, b api.Rel) api.Rel { r, _ := All([]api.Rel{a}, 1000); return r },
		"Semijoin":       Semijoin,
		"Semijoin, own":  func(a, b api.Rel) api.Rel { return Semijoin(a, a) },
		"Agree":          func(a, b api.Rel) api.Rel { Agree(a, b); return api.Rel{} },
	}
	rels := everySeventh(smallRels())
	for name, call := range calls {
		for _, a := range rels {
			for _, b := range rels {
				givenA, givenB := copyOf(a), copyOf(b)
				got := call(givenA, givenB)
				want := copyOf(got)
				if !intactRel(givenA, a) || !intactRel(givenB, b) {
					t.Fatalf("%s(%v, %v) changed what it was handed", name, a, b)
				}
				overwriteRel(givenA)
				overwriteRel(givenB)
				if !same(got, want) {
					t.Fatalf("%s(%v, %v) hangs on what was handed in: %v", name, a, b, got)
				}
				ownRows(t, got)
			}
		}
	}
}

func TestAllLeavesItsList(t *testing.T) {
	a, b := threes()
	l := []api.Rel{a, b, relOf([]int{5}), unit()}
	All(l[:2], 4)
	All(l[:2], 1)
	wantA, wantB := threes()
	if !same(l[0], wantA) || !same(l[1], wantB) || !same(l[2], relOf([]int{5})) || !same(l[3], unit()) {
		t.Errorf("changed: %v", l)
	}
}

func TestAllOfNoneIsNew(t *testing.T) {
	r, _ := All(nil, 1)
	r.Rows[0] = append(r.Rows[0], 7)
	if again, e := All(nil, 1); e != api.OK || !same(again, unit()) {
		t.Errorf("hangs on what was answered before: %v %v", again, e)
	}
}

// TestWhatIsNotRightEnds holds that calls end, and do not panic, on relations of which nothing else is promised.
func TestWhatIsNotRightEnds(t *testing.T) {
	rels := []api.Rel{
		relOf([]int{1, 2}, nil, []int{1}, []int{1, 2, 3}),
		relOf([]int{2, 1, 2}, []int{0, 1}, nil, []int{4}),
		relOf([]int{-1, 3}, []int{5}),
		relOf(nil, []int{1}, []int{2, 3}),
		relOf(nil, nil, nil),
		relOf([]int{0}, []int{2}, []int{1}, []int{2}),
		relOf([]int{0, 1, 2}, []int{2, 1, 0}),
		unit(),
	}
	for _, a := range rels {
		for _, b := range rels {
			for _, most := range []int{-1, 0, 1, 100} {
				Join(a, b, most)
				All([]api.Rel{a, b, a}, most)
			}
			Semijoin(a, b)
			Agree(a, b)
		}
	}
}
