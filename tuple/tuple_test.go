package tuple

import (
	"math"
	"slices"
	"testing"
)

// rowsOver lists every row of at most most numbers, each of them below kinds.
func rowsOver(kinds, most int) [][]int {
	out := [][]int{{}}
	for from := 0; most > 0; most-- {
		to := len(out)
		for _, t := range out[from:to] {
			for n := range kinds {
				out = append(out, append(slices.Clone(t), n))
			}
		}
		from = to
	}
	return out
}

// risingRows lists every row that rises, of numbers from -1 up to below top.
func risingRows(top int) [][]int {
	out := [][]int{{}}
	for n := -1; n < top; n++ {
		for _, t := range out {
			out = append(out, append(slices.Clone(t), n))
		}
	}
	return out
}

// listsOf lists every list of at most three of these rows.
func listsOf(rows [][]int) [][][]int {
	out := [][][]int{nil}
	for _, a := range rows {
		out = append(out, [][]int{a})
		for _, b := range rows {
			out = append(out, [][]int{a, b})
			for _, c := range rows {
				out = append(out, [][]int{a, b, c})
			}
		}
	}
	return out
}

func sameLists(a, b [][]int) bool { return slices.EqualFunc(a, b, slices.Equal) }

func deepCopy(l [][]int) [][]int {
	out := make([][]int, len(l))
	for i, t := range l {
		out[i] = slices.Clone(t)
	}
	return out
}

func hasRow(l [][]int, t []int) bool {
	return slices.ContainsFunc(l, func(u []int) bool { return slices.Equal(t, u) })
}

// filter is what merging should answer, told without merging.
func filter(numbers []int, want func(int) bool) []int {
	out := []int{}
	for _, n := range numbers {
		if want(n) {
			out = append(out, n)
		}
	}
	return out
}

func TestCompare(t *testing.T) {
	for i, c := range []struct {
		a, b []int
		want int
	}{
		{nil, nil, 0},
		{nil, []int{}, 0},
		{nil, []int{math.MinInt}, -1},
		{[]int{1, 2}, []int{1, 2}, 0},
		{[]int{1}, []int{1, -5}, -1},
		{[]int{1, 9}, []int{2}, -1},
		{[]int{1, 2, 3}, []int{1, 3, 0}, -1},
		{[]int{-2}, []int{-1}, -1},
		{[]int{math.MinInt}, []int{math.MaxInt}, -1},
		{[]int{0, math.MinInt}, []int{0, 1}, -1},
	} {
		if got := Compare(c.a, c.b); got != c.want {
			t.Errorf("case %d: %d, not %d", i, got, c.want)
		}
		if got := Compare(c.b, c.a); got != -c.want {
			t.Errorf("case %d the other way round: %d, not %d", i, got, -c.want)
		}
	}
}

func TestCompareOrdersAll(t *testing.T) {
	rows := rowsOver(3, 3)
	for _, a := range rows {
		for _, b := range rows {
			if got, want := Compare(a, b), slices.Compare(a, b); got != want {
				t.Fatalf("Compare(%v, %v): %d, not %d", a, b, got, want)
			}
		}
	}
}

func TestSort(t *testing.T) {
	for i, c := range []struct{ in, want [][]int }{
		{nil, nil},
		{[][]int{}, nil},
		{[][]int{nil}, [][]int{{}}},
		{[][]int{nil, {}, nil}, [][]int{{}}},
		{[][]int{{2}, {1, 5}, {2}}, [][]int{{1, 5}, {2}}},
		{[][]int{{1, 0}, {1}, {}, {1}}, [][]int{{}, {1}, {1, 0}}},
		{[][]int{{3}, {2}, {1}}, [][]int{{1}, {2}, {3}}},
		{[][]int{{math.MaxInt}, {0}, {math.MinInt}}, [][]int{{math.MinInt}, {0}, {math.MaxInt}}},
	} {
		if got := Sort(c.in); !sameLists(got, c.want) {
			t.Errorf("case %d: %v, not %v", i, got, c.want)
		}
	}
}

func TestSortAnswersAllRisingAndNoMore(t *testing.T) {
	for _, in := range listsOf(rowsOver(2, 2)) {
		got := Sort(in)
		for i := 1; i < len(got); i++ {
			if slices.Compare(got[i-1], got[i]) >= 0 {
				t.Fatalf("Sort(%v): %v does not rise", in, got)
			}
		}
		for _, u := range in {
			if !hasRow(got, u) {
				t.Fatalf("Sort(%v): %v lacks %v", in, got, u)
			}
		}
		for _, u := range got {
			if !hasRow(in, u) {
				t.Fatalf("Sort(%v): %v has %v", in, got, u)
			}
		}
	}
}

func TestSortOfManyRows(t *testing.T) {
	rows := rowsOver(4, 4)
	in := append(deepCopy(rows), rows...)
	slices.Reverse(in)
	got := Sort(in)
	slices.SortFunc(rows, slices.Compare)
	if !sameLists(got, rows) {
		t.Errorf("%d rows, not the %d that there are", len(got), len(rows))
	}
}

func TestFind(t *testing.T) {
	l := [][]int{{}, {1}, {1, 5}, {2}}
	for i, c := range []struct {
		l  [][]int
		t  []int
		at int
		is bool
	}{
		{nil, nil, 0, false},
		{nil, []int{1}, 0, false},
		{[][]int{nil}, nil, 0, true},
		{[][]int{{}}, nil, 0, true},
		{[][]int{{0}}, nil, 0, false},
		{l, nil, 0, true},
		{l, []int{0, 9}, 1, false},
		{l, []int{1}, 1, true},
		{l, []int{1, 4}, 2, false},
		{l, []int{1, 5}, 2, true},
		{l, []int{1, 5, 0}, 3, false},
		{l, []int{2}, 3, true},
		{l, []int{2, math.MinInt}, 4, false},
		{l, []int{3}, 4, false},
	} {
		if at, is := Find(c.l, c.t); at != c.at || is != c.is {
			t.Errorf("case %d: %d %v, not %d %v", i, at, is, c.at, c.is)
		}
	}
}

func TestFindInEveryRisingList(t *testing.T) {
	rows := rowsOver(2, 2)
	for _, in := range listsOf(rows) {
		if !slices.IsSortedFunc(in, slices.Compare) || len(slices.CompactFunc(deepCopy(in), slices.Equal)) != len(in) {
			continue
		}
		for _, u := range rows {
			less := 0
			for _, v := range in {
				if slices.Compare(v, u) < 0 {
					less++
				}
			}
			if at, is := Find(in, u); at != less || is != hasRow(in, u) {
				t.Fatalf("Find(%v, %v): %d %v", in, u, at, is)
			}
		}
	}
}

func TestWhatIsFoundIsThere(t *testing.T) {
	rows := rowsOver(2, 2)
	for _, in := range listsOf(rows) {
		for _, u := range rows {
			at, is := Find(in, u)
			if at < 0 || at > len(in) || is && (at == len(in) || !slices.Equal(in[at], u)) {
				t.Fatalf("Find(%v, %v): %d %v", in, u, at, is)
			}
		}
	}
}

func TestPick(t *testing.T) {
	for i, c := range []struct{ t, places, want []int }{
		{nil, nil, nil},
		{nil, []int{0, 1, -1}, nil},
		{[]int{7}, nil, nil},
		{[]int{7, 8, 9}, []int{0, 1, 2}, []int{7, 8, 9}},
		{[]int{7, 8, 9}, []int{2, 0}, []int{9, 7}},
		{[]int{7, 8, 9}, []int{1, 1, 1, 1}, []int{8, 8, 8, 8}},
		{[]int{7, 8, 9}, []int{2, -1, 0, 3, 0}, []int{9, 7, 7}},
		{[]int{7, 8, 9}, []int{math.MinInt, 1, math.MaxInt}, []int{8}},
	} {
		if got := Pick(c.t, c.places); !slices.Equal(got, c.want) {
			t.Errorf("case %d: %v, not %v", i, got, c.want)
		}
	}
}

func TestRising(t *testing.T) {
	for i, c := range []struct {
		l    []int
		want bool
	}{
		{nil, true},
		{[]int{}, true},
		{[]int{5}, true},
		{[]int{-1, 3}, true},
		{[]int{math.MinInt, 0, math.MaxInt}, true},
		{[]int{3, 3}, false},
		{[]int{3, 2}, false},
		{[]int{1, 2, 2}, false},
		{[]int{2, 1, 3}, false},
		{[]int{1, 3, 2, 4}, false},
		{[]int{math.MaxInt, math.MinInt}, false},
	} {
		if got := Rising(c.l); got != c.want {
			t.Errorf("case %d: %v, not %v", i, got, c.want)
		}
	}
}

func TestSets(t *testing.T) {
	for i, c := range []struct {
		a, b, unite, meet, without []int
		within                     bool
	}{
		{nil, nil, nil, nil, nil, true},
		{nil, []int{}, nil, nil, nil, true},
		{nil, []int{1}, []int{1}, nil, nil, true},
		{[]int{1}, nil, []int{1}, nil, []int{1}, false},
		{[]int{0}, []int{0}, []int{0}, []int{0}, nil, true},
		{[]int{1, 3, 5}, []int{2, 3, 6}, []int{1, 2, 3, 5, 6}, []int{3}, []int{1, 5}, false},
		{[]int{3}, []int{2, 3, 6}, []int{2, 3, 6}, []int{3}, nil, true},
		{[]int{2, 3, 6}, []int{3}, []int{2, 3, 6}, []int{3}, []int{2, 6}, false},
		{[]int{4, 5}, []int{1, 2}, []int{1, 2, 4, 5}, nil, []int{4, 5}, false},
		{[]int{math.MinInt, 0}, []int{0, math.MaxInt}, []int{math.MinInt, 0, math.MaxInt}, []int{0}, []int{math.MinInt}, false},
	} {
		if got := Unite(c.a, c.b); !slices.Equal(got, c.unite) {
			t.Errorf("case %d: Unite: %v, not %v", i, got, c.unite)
		}
		if got := Meet(c.a, c.b); !slices.Equal(got, c.meet) {
			t.Errorf("case %d: Meet: %v, not %v", i, got, c.meet)
		}
		if got := Without(c.a, c.b); !slices.Equal(got, c.without) {
			t.Errorf("case %d: Without: %v, not %v", i, got, c.without)
		}
		if got := Within(c.a, c.b); got != c.within {
			t.Errorf("case %d: Within: %v, not %v", i, got, c.within)
		}
	}
}

func TestSetsOfEveryPair(t *testing.T) {
	rows := risingRows(5)
	numbers := rows[len(rows)-1]
	for _, a := range rows {
		for _, b := range rows {
			inA := func(n int) bool { return slices.Contains(a, n) }
			inB := func(n int) bool { return slices.Contains(b, n) }
			without := filter(numbers, func(n int) bool { return inA(n) && !inB(n) })
			if got := Unite(a, b); !slices.Equal(got, filter(numbers, func(n int) bool { return inA(n) || inB(n) })) {
				t.Fatalf("Unite(%v, %v): %v", a, b, got)
			}
			if got := Meet(a, b); !slices.Equal(got, filter(numbers, func(n int) bool { return inA(n) && inB(n) })) {
				t.Fatalf("Meet(%v, %v): %v", a, b, got)
			}
			if got := Without(a, b); !slices.Equal(got, without) {
				t.Fatalf("Without(%v, %v): %v", a, b, got)
			}
			if got := Within(a, b); got != (len(without) == 0) {
				t.Fatalf("Within(%v, %v): %v", a, b, got)
			}
		}
	}
}

// TestRowsThatDoNotRise holds R2: such rows may get any answer, but they get one.
func TestRowsThatDoNotRise(t *testing.T) {
	rows := rowsOver(3, 3)
	for _, a := range rows {
		for _, b := range rows {
			Unite(a, b)
			Meet(a, b)
			Without(a, b)
			Within(a, b)
		}
	}
}

func TestSortSharesNothing(t *testing.T) {
	in := [][]int{{2, 2}, {1, 5}, {2, 2}, {}, {1}}
	was := deepCopy(in)
	got := Sort(in)
	if !sameLists(in, was) {
		t.Fatalf("Sort changed its list: %v", in)
	}
	want := deepCopy(got)
	for i := range in {
		overwrite(in[i])
		in[i] = []int{-1}
	}
	if !sameLists(got, want) {
		t.Fatalf("the answer hangs on the list: %v", got)
	}
	for i := range got {
		overwrite(got[i])
		got[i] = append(got[i], -9)
		if i+1 < len(got) && !sameLists(got[i+1:], want[i+1:]) {
			t.Fatalf("rows of the answer share memory: %v", got)
		}
	}
}

func TestSortedListIsNotAnsweredItself(t *testing.T) {
	in := [][]int{{1}, {2}}
	got := Sort(in)
	got[0][0], got[1] = 7, nil
	if !sameLists(in, [][]int{{1}, {2}}) {
		t.Errorf("who writes over the answer changes the list: %v", in)
	}
}

func TestFindAndCompareChangeNothing(t *testing.T) {
	l, u := [][]int{{1}, {1, 5}, {2}}, []int{1, 5}
	Find(l, u)
	Compare(l[1], u)
	if !sameLists(l, [][]int{{1}, {1, 5}, {2}}) || !slices.Equal(u, []int{1, 5}) {
		t.Errorf("changed: %v %v", l, u)
	}
}

func TestRowsShareNothing(t *testing.T) {
	calls := map[string]func(a, b []int) []int{"Pick": Pick, "Unite": Unite, "Meet": Meet, "Without": Without}
	rows := risingRows(4)
	for name, call := range calls {
		for _, a := range rows {
			for _, b := range rows {
				checkShares(t, name, call, a, b)
			}
		}
	}
}

// checkShares hands in rows with room behind them, as a call that appends to one would write there.
func checkShares(t *testing.T, name string, call func(a, b []int) []int, a, b []int) {
	t.Helper()
	inA, inB := withRoom(a), withRoom(b)
	got := call(inA, inB)
	want := slices.Clone(got)
	if !intact(inA, a) || !intact(inB, b) {
		t.Fatalf("%s(%v, %v) changed what it was handed", name, a, b)
	}
	overwrite(inA[:cap(inA)])
	overwrite(inB[:cap(inB)])
	if !slices.Equal(got, want) {
		t.Fatalf("%s(%v, %v): the answer hangs on what was handed in", name, a, b)
	}
}

const room = -77

func withRoom(a []int) []int {
	out := append(slices.Clone(a), room, room, room)
	return out[:len(a)]
}

func intact(in, a []int) bool {
	return slices.Equal(in, a) && slices.Equal(in[:len(a)+3][len(a):], []int{room, room, room})
}

func overwrite(a []int) {
	for i := range a {
		a[i] = 1000 + i
	}
}
