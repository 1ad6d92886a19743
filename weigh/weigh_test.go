package weigh

import (
	"math"
	"slices"
	"testing"

	"arborist/api"
)

const (
	mostCount = int64(1 << 62)
	mostPart  = float64(1<<53 - 1)
)

func relOf(scheme []int, rows ...[]int) api.Rel { return api.Rel{Scheme: scheme, Rows: rows} }

func unit() api.Rel { return relOf(nil, []int{}) }

func two() api.Rel { return relOf([]int{0}, []int{1}, []int{2}) }

func of[W Number](r api.Rel, w ...W) Weighted[W] { return Weighted[W]{Rel: r, W: w} }

// numbered weighs the variable 0, with a row of each of these weights.
func numbered[W Number](w ...W) Weighted[W] {
	r := api.Rel{Scheme: []int{0}}
	for i := range w {
		r.Rows = append(r.Rows, []int{i})
	}
	return of(r, w...)
}

// same and right are told here anew, so that a fault of a layer below does not hide itself.
func same[W Number](a, b Weighted[W]) bool {
	return slices.Equal(a.Scheme, b.Scheme) && slices.EqualFunc(a.Rows, b.Rows, slices.Equal) && slices.Equal(a.W, b.W)
}

func empty[W Number](a Weighted[W]) bool {
	return len(a.Scheme) == 0 && len(a.Rows) == 0 && len(a.W) == 0
}

func rightRel(r api.Rel) bool {
	for i, v := range r.Scheme {
		if v < 0 || i > 0 && r.Scheme[i-1] >= v {
			return false
		}
	}
	for i, t := range r.Rows {
		if len(t) != len(r.Scheme) || i > 0 && slices.Compare(r.Rows[i-1], t) >= 0 {
			return false
		}
	}
	return true
}

// right is for the small weights of these tests, of which all fit.
func right[W Number](a Weighted[W]) bool {
	return rightRel(a.Rel) && len(a.W) == len(a.Rows) && Right(a)
}

// rowsOf lists every row of this width whose numbers are below 2.
func rowsOf(width int) [][]int {
	rows := [][]int{{}}
	for range width {
		var longer [][]int
		for _, t := range rows {
			for n := range 2 {
				longer = append(longer, append(slices.Clone(t), n))
			}
		}
		rows = longer
	}
	return rows
}

// rightRels lists every right relation over a scheme whose rows have numbers below 2.
func rightRels(scheme ...int) []api.Rel {
	rows := rowsOf(len(scheme))
	out := []api.Rel{}
	for set := range 1 << len(rows) {
		r := api.Rel{Scheme: scheme}
		for i, t := range rows {
			if set>>i&1 == 1 {
				r.Rows = append(r.Rows, t)
			}
		}
		out = append(out, r)
	}
	return out
}

// everySeventh thins a list out, where all pairs would be too many.
func everySeventh(l []api.Rel) []api.Rel {
	out := []api.Rel{}
	for i := 0; i < len(l); i += 7 {
		out = append(out, l[i])
	}
	return append(out, l[len(l)-1])
}

// smallWeighted weighs small relations over one, some and no variables, each row otherwise than the next one.
func smallWeighted[W Number](weight func(i int) W) []Weighted[W] {
	rels := slices.Concat(rightRels(), rightRels(0), rightRels(1), rightRels(0, 2), rightRels(1, 2), rightRels(1, 3), everySeventh(rightRels(0, 1, 2)))
	out := []Weighted[W]{}
	n := 0
	for _, r := range rels {
		a := Weighted[W]{Rel: r}
		for range r.Rows {
			a.W = append(a.W, weight(n))
			n++
		}
		out = append(out, a)
	}
	return out
}

func smallCount(i int) int64 { return int64(i*7%19 - 9) }

func smallPhase(i int) complex128 { return complex(float64(i*5%13-6), float64(i*11%17-8)) }

func cutTo(scheme, t, vars []int) []int {
	out := []int{}
	for i, v := range scheme {
		if slices.Contains(vars, v) {
			out = append(out, t[i])
		}
	}
	return out
}

func weightIn[W Number](a Weighted[W], t []int) (W, bool) {
	i := slices.IndexFunc(a.Rows, func(u []int) bool { return slices.Equal(t, u) })
	if i < 0 {
		return 0, false
	}
	return a.W[i], true
}

// joinedBy goes through all rows that there may be of numbers below 2, as C1 tells what a join is.
func joinedBy[W Number](a, b Weighted[W], weigh func(x, y W) W) Weighted[W] {
	all := slices.Concat(a.Scheme, b.Scheme)
	slices.Sort(all)
	out := Weighted[W]{Rel: api.Rel{Scheme: slices.Compact(all)}}
	for _, t := range rowsOf(len(out.Scheme)) {
		x, inA := weightIn(a, cutTo(out.Scheme, t, a.Scheme))
		y, inB := weightIn(b, cutTo(out.Scheme, t, b.Scheme))
		if inA && inB {
			out.Rows = append(out.Rows, t)
			out.W = append(out.W, weigh(x, y))
		}
	}
	return out
}

// projectedBy goes through all rows that there may be of numbers below 2; weigh is handed all weights that are cut to one.
func projectedBy[W Number](a Weighted[W], vars []int, weigh func(l []W) W) Weighted[W] {
	out := Weighted[W]{Rel: api.Rel{Scheme: cutTo(a.Scheme, a.Scheme, vars)}}
	for _, t := range rowsOf(len(out.Scheme)) {
		l := []W{}
		for i, u := range a.Rows {
			if slices.Equal(cutTo(a.Scheme, u, vars), t) {
				l = append(l, a.W[i])
			}
		}
		if len(l) > 0 {
			out.Rows = append(out.Rows, t)
			out.W = append(out.W, weigh(l))
		}
	}
	return out
}

func productOf[W Number](x, y W) W { return x * y }

func sumOf[W Number](l []W) W {
	var s W
	for _, w := range l {
		s += w
	}
	return s
}

var someVars = [][]int{nil, {0}, {2}, {2, 0}, {3, 1, 3}, {1, 2}, {0, 1, 2, 3}, {3, 2, 1, 0}, {-1, 3, 0, 9}, {5, -2}, {math.MaxInt, 1, math.MinInt}}

func TestRightOfCounts(t *testing.T) {
	for i, c := range []struct {
		a    Weighted[int64]
		want bool
	}{
		{of[int64](two(), 3, -5), true},
		{of[int64](two(), 0, 0), true},
		{of[int64](two(), mostCount, -mostCount), true},
		{of[int64](two(), mostCount+1, 0), false},
		{of[int64](two(), 0, -mostCount-1), false},
		{of[int64](two(), math.MaxInt64, 0), false},
		{of[int64](two(), math.MinInt64, 0), false},
		{of[int64](two(), 0, math.MinInt64), false},
		{of[int64](two()), false},
		{of[int64](two(), 1), false},
		{of[int64](two(), 1, 2, 3), false},
		{of[int64](unit(), 7), true},
		{of[int64](unit()), false},
		{of[int64](relOf(nil)), true},
		{of[int64](relOf(nil), 1), false},
		{of[int64](relOf([]int{4})), true},
		{of[int64](relOf([]int{4}), 0), false},
		{Weighted[int64]{}, true},
		{of[int64](relOf([]int{0}, []int{2}, []int{1}), 1, 1), false},
		{of[int64](relOf([]int{0}, []int{1}, []int{1}), 1, 1), false},
		{of[int64](relOf([]int{0}, []int{1}, []int{1, 2}), 1, 1), false},
		{of[int64](relOf([]int{0}, nil), 1), false},
		{of[int64](relOf(nil, []int{}, []int{}), 1, 1), false},
		{of[int64](relOf([]int{1, 0}, []int{1, 2}), 1), false},
		{of[int64](relOf([]int{1, 1}, []int{1, 2}), 1), false},
		{of[int64](relOf([]int{-1}, []int{1}), 1), false},
	} {
		if Right(c.a) != c.want {
			t.Errorf("case %d: %v is not %v", i, c.a, c.want)
		}
	}
}

func TestRightOfPhases(t *testing.T) {
	inf, nan := math.Inf(1), math.NaN()
	for i, c := range []struct {
		part float64
		want bool
	}{
		{0, true}, {1, true}, {-1, true}, {math.Copysign(0, -1), true},
		{mostPart, true}, {-mostPart, true}, {mostPart + 1, false}, {-mostPart - 1, false}, {mostPart + 3, false},
		{1 << 62, false}, {-1 << 62, false}, {1e300, false}, {math.MaxFloat64, false}, {-math.MaxFloat64, false},
		{0.5, false}, {-0.5, false}, {1.5, false}, {1<<52 - 0.5, false}, {0.5 - 1<<52, false}, {math.SmallestNonzeroFloat64, false},
		{inf, false}, {-inf, false}, {nan, false},
	} {
		for _, w := range []complex128{complex(c.part, 0), complex(0, c.part), complex(c.part, -3), complex(4, c.part), complex(c.part, c.part)} {
			if Right(of(unit(), w)) != c.want || Right(of(two(), w, 1)) != c.want || Right(of(two(), 1i, w)) != c.want {
				t.Errorf("case %d: %v is not %v", i, w, c.want)
			}
		}
	}
	for i, a := range []Weighted[complex128]{
		of[complex128](two()),
		of[complex128](two(), 1),
		of[complex128](two(), 1, 2, 3),
		of[complex128](relOf(nil), 0),
		of[complex128](relOf([]int{0}, []int{2}, []int{1}), 1, 1),
		of[complex128](relOf([]int{1, 0}, []int{1, 2}), 1),
		of[complex128](relOf([]int{-1}, []int{1}), 1),
	} {
		if Right(a) {
			t.Errorf("case %d: %v is right", i, a)
		}
	}
	if !Right(Weighted[complex128]{}) || !Right(of[complex128](relOf([]int{4}))) {
		t.Error("no rows are not right")
	}
}

func checkOf[W Number](t *testing.T, w W) {
	t.Helper()
	for _, r := range slices.Concat(rightRels(), rightRels(3), rightRels(1, 4), []api.Rel{two(), {}}) {
		got := Of(r, w)
		if want := of(r, slices.Repeat([]W{w}, len(r.Rows))...); !right(got) || !same(got, want) {
			t.Errorf("Of(%v, %v): %v", r, w, got)
		}
	}
}

func TestOf(t *testing.T) {
	for _, w := range []int64{0, 3, -5, mostCount, -mostCount} {
		checkOf(t, w)
	}
	for _, w := range []complex128{0, 1i, 2 - 3i, complex(mostPart, -mostPart)} {
		checkOf(t, w)
	}
	// What does not fit is told by Right, not by Of.
	if got := Of(two(), mostCount+1); !same(got, of(two(), mostCount+1, mostCount+1)) || Right(got) {
		t.Errorf("%v", got)
	}
	if got := Of(two(), 0.5i); !same(got, of(two(), 0.5i, 0.5i)) || Right(got) {
		t.Errorf("%v", got)
	}
}

func TestTimesOfCounts(t *testing.T) {
	a := of[int64](relOf([]int{0, 2}, []int{1, 5}, []int{1, 6}, []int{2, 5}), 3, 4, -5)
	for i, c := range []struct{ a, b, times, plus Weighted[int64] }{
		{a, of[int64](relOf([]int{1, 2}, []int{8, 5}, []int{9, 5}, []int{9, 7}), 10, -20, 30), // some are shared
			of[int64](relOf([]int{0, 1, 2}, []int{1, 8, 5}, []int{1, 9, 5}, []int{2, 8, 5}, []int{2, 9, 5}), 30, -60, -50, 100),
			of[int64](relOf([]int{0, 1, 2}, []int{1, 8, 5}, []int{1, 9, 5}, []int{2, 8, 5}, []int{2, 9, 5}), 13, -17, 5, -25)},
		{of[int64](relOf([]int{3}, []int{1}, []int{2}), 2, 3), of[int64](relOf([]int{1}, []int{5}, []int{6}), 5, 7), // none is shared
			of[int64](relOf([]int{1, 3}, []int{5, 1}, []int{5, 2}, []int{6, 1}, []int{6, 2}), 10, 15, 14, 21),
			of[int64](relOf([]int{1, 3}, []int{5, 1}, []int{5, 2}, []int{6, 1}, []int{6, 2}), 7, 8, 9, 10)},
		{a, of[int64](relOf([]int{0, 2}, []int{1, 6}, []int{2, 5}, []int{2, 6}), 0, -2, 9), // all are shared
			of[int64](relOf([]int{0, 2}, []int{1, 6}, []int{2, 5}), 0, 10), of[int64](relOf([]int{0, 2}, []int{1, 6}, []int{2, 5}), 4, -7)},
		{a, of[int64](relOf([]int{2}, []int{-1}, []int{5}), 9, 2),
			of[int64](relOf([]int{0, 2}, []int{1, 5}, []int{2, 5}), 6, -10), of[int64](relOf([]int{0, 2}, []int{1, 5}, []int{2, 5}), 5, -3)},
		{a, of[int64](unit(), 2), of[int64](a.Rel, 6, 8, -10), of[int64](a.Rel, 5, 6, -3)},
		{of[int64](unit(), 6), of[int64](unit(), -7), of[int64](unit(), -42), of[int64](unit(), -1)},
		{a, of[int64](relOf(nil)), of[int64](relOf([]int{0, 2})), of[int64](relOf([]int{0, 2}))},
		{a, of[int64](relOf([]int{7})), of[int64](relOf([]int{0, 2, 7})), of[int64](relOf([]int{0, 2, 7}))},
		{a, of[int64](relOf([]int{2}, []int{8}), 1), of[int64](relOf([]int{0, 2})), of[int64](relOf([]int{0, 2}))},
		{Weighted[int64]{}, Weighted[int64]{}, Weighted[int64]{}, Weighted[int64]{}},
	} {
		for _, most := range []int{len(c.times.Rows), len(c.times.Rows) + 1, math.MaxInt} {
			checkPair(t, i, c.a, c.b, most, c.times, Times[int64])
			checkPair(t, i, c.a, c.b, most, c.plus, Plus)
		}
		for _, most := range []int{len(c.times.Rows) - 1, -1, math.MinInt} {
			checkPairRefused(t, i, c.a, c.b, most, api.ErrRows, Times[int64])
			checkPairRefused(t, i, c.a, c.b, most, api.ErrRows, Plus)
		}
	}
}

type pairCall[W Number] func(a, b Weighted[W], most int) (Weighted[W], api.Errno)

// checkPair and checkPairRefused turn the two round as well, as that does not matter to either call.
func checkPair[W Number](t *testing.T, i int, a, b Weighted[W], most int, want Weighted[W], call pairCall[W]) {
	t.Helper()
	if got, e := call(a, b, most); e != api.OK || !right(got) || !same(got, want) {
		t.Errorf("case %d, most %d: %v %v, not %v", i, most, got, e, want)
	}
	if got, e := call(b, a, most); e != api.OK || !right(got) || !same(got, want) {
		t.Errorf("case %d, most %d, turned: %v %v, not %v", i, most, got, e, want)
	}
}

func checkPairRefused[W Number](t *testing.T, i int, a, b Weighted[W], most int, want api.Errno, call pairCall[W]) {
	t.Helper()
	if got, e := call(a, b, most); e != want || !empty(got) {
		t.Errorf("case %d, most %d: %v %v, not %v", i, most, got, e, want)
	}
	if got, e := call(b, a, most); e != want || !empty(got) {
		t.Errorf("case %d, most %d, turned: %v %v, not %v", i, most, got, e, want)
	}
}

func TestTimesOfPhases(t *testing.T) {
	a := of(relOf([]int{0, 2}, []int{1, 5}, []int{1, 6}, []int{2, 5}), 2+3i, 4, -5i)
	for i, c := range []struct{ a, b, want Weighted[complex128] }{
		{a, of(relOf([]int{1, 2}, []int{8, 5}, []int{9, 5}, []int{9, 7}), 1-1i, 1i, 30),
			of(relOf([]int{0, 1, 2}, []int{1, 8, 5}, []int{1, 9, 5}, []int{2, 8, 5}, []int{2, 9, 5}), 5+1i, -3+2i, -5-5i, 5)},
		{of(relOf([]int{3}, []int{1}, []int{2}), 2, 3i), of(relOf([]int{1}, []int{5}, []int{6}), 5i, 7),
			of(relOf([]int{1, 3}, []int{5, 1}, []int{5, 2}, []int{6, 1}, []int{6, 2}), 10i, -15, 14, 21i)},
		{a, of(relOf([]int{0, 2}, []int{1, 6}, []int{2, 5}, []int{2, 6}), 0, -2i, 9), of[complex128](relOf([]int{0, 2}, []int{1, 6}, []int{2, 5}), 0, -10)},
		{a, of(unit(), 1i), of(a.Rel, -3+2i, 4i, 5)},
		{of(unit(), 1+1i), of(unit(), 1-1i), of[complex128](unit(), 2)},
		{a, of[complex128](relOf(nil)), of[complex128](relOf([]int{0, 2}))},
		{a, of[complex128](relOf([]int{7})), of[complex128](relOf([]int{0, 2, 7}))},
	} {
		checkPair(t, i, c.a, c.b, len(c.want.Rows), c.want, Times[complex128])
		checkPair(t, i, c.a, c.b, math.MaxInt, c.want, Times[complex128])
		checkPairRefused(t, i, c.a, c.b, len(c.want.Rows)-1, api.ErrRows, Times[complex128])
		checkPairRefused(t, i, c.a, c.b, math.MinInt, api.ErrRows, Times[complex128])
	}
}

// checkEveryPair holds each answer against all rows that there may be, with just as many rows as most, and one more.
func checkEveryPair[W Number](t *testing.T, all []Weighted[W], weigh func(x, y W) W, call pairCall[W]) {
	t.Helper()
	for _, a := range all {
		for _, b := range all {
			want := joinedBy(a, b, weigh)
			if got, e := call(a, b, len(want.Rows)); e != api.OK || !right(got) || !same(got, want) {
				t.Fatalf("%v and %v: %v %v, not %v", a, b, got, e, want)
			}
			if got, e := call(a, b, len(want.Rows)-1); e != api.ErrRows || !empty(got) {
				t.Fatalf("%v and %v, one row too many: %v %v", a, b, got, e)
			}
		}
	}
}

func TestEveryPair(t *testing.T) {
	checkEveryPair(t, smallWeighted(smallCount), productOf[int64], Times[int64])
	checkEveryPair(t, smallWeighted(smallPhase), productOf[complex128], Times[complex128])
	checkEveryPair(t, smallWeighted(smallCount), func(x, y int64) int64 { return x + y }, Plus)
}

// TestStopsAtMost would not end in time if all rows were made first.
func TestStopsAtMost(t *testing.T) {
	const n = 100000
	a, b := api.Rel{Scheme: []int{0}}, api.Rel{Scheme: []int{1}}
	for i := range n {
		a.Rows = append(a.Rows, []int{i})
		b.Rows = append(b.Rows, []int{i})
	}
	checkPairRefused(t, 0, Of(a, int64(1)), Of(b, int64(2)), 1000, api.ErrRows, Times[int64])
	checkPairRefused(t, 1, Of(a, 1i), Of(b, 2i), 1000, api.ErrRows, Times[complex128])
	checkPairRefused(t, 2, Of(a, int64(1)), Of(b, int64(2)), 1000, api.ErrRows, Plus)
}

func TestManyRows(t *testing.T) {
	const n = 300
	a, b, want := Weighted[int64]{Rel: api.Rel{Scheme: []int{1, 5}}}, Weighted[int64]{Rel: api.Rel{Scheme: []int{3, 5}}}, Weighted[int64]{Rel: api.Rel{Scheme: []int{1, 3, 5}}}
	for i := range n {
		a.Rows, a.W = append(a.Rows, []int{i - 100, i % 10}), append(a.W, int64(i))
		b.Rows, b.W = append(b.Rows, []int{i * 7, i % 10}), append(b.W, int64(1000-i))
		for k := i % 10; k < n; k += 10 {
			want.Rows = append(want.Rows, []int{i - 100, k * 7, i % 10})
			want.W = append(want.W, int64(i)*int64(1000-k))
		}
	}
	checkPair(t, 0, a, b, n*n/10, want, Times[int64])
	checkPairRefused(t, 0, a, b, n*n/10-1, api.ErrRows, Times[int64])
	sums := Weighted[int64]{Rel: api.Rel{Scheme: []int{5}}}
	for k := range 10 {
		sums.Rows = append(sums.Rows, []int{k})
		sums.W = append(sums.W, int64(30*k+10*(29*30/2)))
	}
	if got, e := Sum(a, []int{5}); e != api.OK || !same(got, sums) {
		t.Errorf("Sum: %v %v, not %v", got, e, sums)
	}
}

// checkFit holds what two weights come to, alone, ahead of a row that fits, and behind one.
func checkFit[W Number](t *testing.T, x, y, want W, fit bool, call pairCall[W]) {
	t.Helper()
	for i, c := range []struct{ a, b, want Weighted[W] }{
		{of(unit(), x), of(unit(), y), of(unit(), want)},
		{of(two(), x), of(two(), y), of(two(), want)},
		{of(relOf([]int{4}, []int{9}), x), of(relOf([]int{2}, []int{-3}), y), of(relOf([]int{2, 4}, []int{-3, 9}), want)},
	} {
		pad := func(a Weighted[W]) Weighted[W] {
			w := slices.Clone(a.W)
			for len(w) < len(a.Rows) {
				w = slices.Insert(w, i%2, 0)
			}
			return of(a.Rel, w...)
		}
		if fit {
			checkPair(t, i, pad(c.a), pad(c.b), len(c.want.Rows), pad(c.want), call)
			continue
		}
		checkPairRefused(t, i, pad(c.a), pad(c.b), len(c.want.Rows), api.ErrOver, call)
		// Where there are too many rows as well, that is told.
		checkPairRefused(t, i, pad(c.a), pad(c.b), len(c.want.Rows)-1, api.ErrRows, call)
	}
}

func TestTimesOfCountsThatFitOrNot(t *testing.T) {
	for _, c := range []struct {
		x, y int64
		fit  bool
	}{
		{1 << 31, 1 << 31, true}, {1 << 31, 1<<31 + 1, false}, {1<<31 - 1, 1<<31 + 1, true},
		{mostCount, 1, true}, {mostCount, 0, true}, {mostCount, 2, false}, {mostCount, mostCount, false},
		{mostCount - 1, 1, true}, {1<<61 + 1, 2, false}, {1 << 61, 2, true}, {mostCount / 3, 3, true}, {mostCount/3 + 1, 3, false},
		{1 << 32, 1 << 32, false}, {1 << 33, 1 << 32, false}, {1 << 62, 4, false}, {1 << 61, 8, false}, {3 << 60, 6, false},
		{4294967297, 4294967297, false}, {1<<62 - 1, 1<<62 - 1, false}, {3037000499, 1518500249, true}, {2147483648, 2147483649, false},
	} {
		for _, signs := range [][2]int64{{1, 1}, {1, -1}, {-1, 1}, {-1, -1}} {
			x, y := signs[0]*c.x, signs[1]*c.y
			checkFit(t, x, y, x*y, c.fit, Times[int64])
		}
	}
}

func TestPlusThatFitsOrNot(t *testing.T) {
	for _, c := range []struct {
		x, y int64
		fit  bool
	}{
		{mostCount, 0, true}, {mostCount, 1, false}, {mostCount - 1, 1, true}, {mostCount, -1, true},
		{mostCount, mostCount, false}, {mostCount, -mostCount, true}, {1 << 61, 1 << 61, true}, {1 << 61, 1<<61 + 1, false},
		{mostCount - 1, 2, false}, {mostCount, mostCount - 1, false}, {0, 0, true},
	} {
		for _, sign := range []int64{1, -1} {
			checkFit(t, sign*c.x, sign*c.y, sign*(c.x+c.y), c.fit, Plus)
		}
	}
}

func TestTimesOfPhasesThatFitOrNot(t *testing.T) {
	const half, whole = 1 << 26, 1 << 27 // by each other 2^53
	for _, c := range []struct {
		x, y, want complex128
		fit        bool
	}{
		{complex(mostPart, 0), 1, complex(mostPart, 0), true},
		{complex(mostPart, -mostPart), 1, complex(mostPart, -mostPart), true},
		{complex(mostPart, -mostPart), -1i, complex(-mostPart, -mostPart), true},
		{complex(mostPart, 0), 2, 0, false},
		{complex(mostPart, mostPart), complex(mostPart, mostPart), 0, false},
		{94906265, 94906265, 9007199136250225, true},
		{94906266, 94906266, 0, false},
		{94906265i, 94906265i, -9007199136250225, true},
		{94906266i, 94906266i, 0, false},
		{whole, half, 0, false}, {whole, half * 1i, 0, false}, {whole * 1i, half, 0, false}, {whole * 1i, half * 1i, 0, false},
		{-whole, half, 0, false}, {-whole, half * 1i, 0, false}, {whole * -1i, half, 0, false}, {whole * -1i, half * 1i, 0, false},
		{whole - 1, half, (whole - 1) * half, true},
		// The product fits, but one product of parts does not: each of the four in turn.
		{whole + 1i, half + 1i, 0, false},
		{1 + whole*1i, 1 + half*1i, 0, false},
		{whole - 1i, 1 + half*1i, 0, false},
		{1 + whole*1i, half - 1i, 0, false},
		// All products of parts fit, but a part of the product does not.
		{half + half*1i, half + half*1i, 0, false},
		{half - half*1i, half + half*1i, 0, false},
		{complex(mostPart, 1), 1 - 1i, 0, false},
		{complex(mostPart, 1), 1 + 1i, 0, false},
		{complex(1, mostPart), 1 - 1i, 0, false},
		{complex(mostPart-1, 1), 1 - 1i, complex(mostPart, 2-mostPart), true},
		{complex(mostPart-1, 1), 1 + 1i, complex(mostPart-2, mostPart), true},
		// They fit, and take each other away.
		{half + half*1i, half - half*0i, half*half + half*half*1i, true},
		{complex(mostPart, mostPart), 1 - 0i, complex(mostPart, mostPart), true},
	} {
		checkFit(t, c.x, c.y, c.want, c.fit, Times[complex128])
		checkFit(t, -c.x, c.y, -c.want, c.fit, Times[complex128])
		checkFit(t, -c.x, -c.y, c.want, c.fit, Times[complex128])
	}
}

// TestPhasesHaveOneNought: to tell a number, its sign is looked at.
func TestPhasesHaveOneNought(t *testing.T) {
	minus := math.Copysign(0, -1)
	for _, x := range []complex128{0, -1, -1i, 1, 1i, complex(minus, minus), complex(0, minus)} {
		for _, y := range []complex128{0, complex(minus, 0), complex(minus, minus), 1, -1, 1i, -1i} {
			p, _ := Times(of(unit(), x), of(unit(), y), 1)
			s, _ := Sum(numbered(x, y), nil)
			for _, w := range []complex128{p.W[0], s.W[0]} {
				if real(w) == 0 && math.Signbit(real(w)) || imag(w) == 0 && math.Signbit(imag(w)) {
					t.Errorf("%v and %v: %v", x, y, w)
				}
			}
		}
	}
}

func TestSumOfCounts(t *testing.T) {
	a := of[int64](relOf([]int{0, 2}, []int{1, 5}, []int{1, 6}, []int{2, 5}), 3, 4, -5)
	for i, c := range []struct {
		a          Weighted[int64]
		vars       []int
		sum, least Weighted[int64]
	}{
		{of[int64](two(), 3, 3), nil, of[int64](unit(), 6), of[int64](unit(), 3)},
		{a, []int{0}, of[int64](relOf([]int{0}, []int{1}, []int{2}), 7, -5), of[int64](relOf([]int{0}, []int{1}, []int{2}), 3, -5)},
		{a, []int{2}, of[int64](relOf([]int{2}, []int{5}, []int{6}), -2, 4), of[int64](relOf([]int{2}, []int{5}, []int{6}), -5, 4)},
		{a, []int{}, of[int64](unit(), 2), of[int64](unit(), -5)},
		{a, []int{7, -1, 1}, of[int64](unit(), 2), of[int64](unit(), -5)},
		{a, []int{2, 0}, a, a},
		{a, []int{2, 1, 0, 2, 2}, a, a},
		{of[int64](unit(), 9), nil, of[int64](unit(), 9), of[int64](unit(), 9)},
		{of[int64](unit(), -9), []int{0, 1}, of[int64](unit(), -9), of[int64](unit(), -9)},
		{of[int64](relOf(nil)), nil, of[int64](relOf(nil)), of[int64](relOf(nil))},
		{of[int64](relOf([]int{1, 4})), []int{4}, of[int64](relOf([]int{4})), of[int64](relOf([]int{4}))},
		{of[int64](relOf([]int{1, 4})), nil, of[int64](relOf(nil)), of[int64](relOf(nil))},
		{numbered[int64](5, -5), nil, of[int64](unit(), 0), of[int64](unit(), -5)},
		{numbered[int64](0, 8), nil, of[int64](unit(), 8), of[int64](unit(), 0)},
	} {
		if got, e := Sum(c.a, c.vars); e != api.OK || !right(got) || !same(got, c.sum) {
			t.Errorf("case %d: Sum %v %v, not %v", i, got, e, c.sum)
		}
		if got := Min(c.a, c.vars); !right(got) || !same(got, c.least) {
			t.Errorf("case %d: Min %v, not %v", i, got, c.least)
		}
	}
}

func TestSumOfPhases(t *testing.T) {
	a := of(relOf([]int{0, 2}, []int{1, 5}, []int{1, 6}, []int{2, 5}), 2+3i, 4, -5i)
	for i, c := range []struct {
		a    Weighted[complex128]
		vars []int
		want Weighted[complex128]
	}{
		{a, []int{0}, of(relOf([]int{0}, []int{1}, []int{2}), 6+3i, -5i)},
		{a, []int{2}, of(relOf([]int{2}, []int{5}, []int{6}), 2-2i, 4)},
		{a, nil, of(unit(), 6-2i)},
		{a, []int{5, 2, 2, 0}, a},
		{of[complex128](relOf([]int{1, 4})), []int{4}, of[complex128](relOf([]int{4}))},
		{of[complex128](relOf(nil)), nil, of[complex128](relOf(nil))},
		{numbered(1, 1i, -1, -1i), nil, of[complex128](unit(), 0)},
	} {
		if got, e := Sum(c.a, c.vars); e != api.OK || !right(got) || !same(got, c.want) {
			t.Errorf("case %d: %v %v, not %v", i, got, e, c.want)
		}
	}
}

func checkEverySum[W Number](t *testing.T, all []Weighted[W]) {
	t.Helper()
	for _, a := range all {
		for _, vars := range someVars {
			want := projectedBy(a, vars, sumOf[W])
			if got, e := Sum(a, vars); e != api.OK || !right(got) || !same(got, want) {
				t.Fatalf("Sum(%v, %v): %v %v, not %v", a, vars, got, e, want)
			}
		}
	}
}

func TestEverySum(t *testing.T) {
	checkEverySum(t, smallWeighted(smallCount))
	checkEverySum(t, smallWeighted(smallPhase))
}

func TestEveryMin(t *testing.T) {
	for _, a := range smallWeighted(smallCount) {
		for _, vars := range someVars {
			want := projectedBy(a, vars, slices.Min[[]int64])
			if got := Min(a, vars); !right(got) || !same(got, want) {
				t.Fatalf("Min(%v, %v): %v, not %v", a, vars, got, want)
			}
		}
	}
}

// checkSumFit has the weights as rows of one value of the variable 3, beside a row of another one.
func checkSumFit[W Number](t *testing.T, l []W, want W, fit bool) {
	t.Helper()
	a, b := numbered(l...), Weighted[W]{Rel: api.Rel{Scheme: []int{0, 3}, Rows: [][]int{{-1, 0}}}, W: []W{7}}
	for i, w := range l {
		b.Rows, b.W = append(b.Rows, []int{i, 1}), append(b.W, w)
	}
	got, e := Sum(a, nil)
	beside, f := Sum(b, []int{3})
	if !fit {
		if e != api.ErrOver || f != api.ErrOver || !empty(got) || !empty(beside) {
			t.Errorf("%v: %v %v, %v %v", l, got, e, beside, f)
		}
		return
	}
	if e != api.OK || !right(got) || !same(got, of(unit(), want)) {
		t.Errorf("%v: %v %v, not %v", l, got, e, want)
	}
	if f != api.OK || !right(beside) || !same(beside, of(relOf([]int{3}, []int{0}, []int{1}), 7, want)) {
		t.Errorf("%v: %v %v, not 7 and %v", l, beside, f, want)
	}
	// Where each row stands for itself, nothing is summed.
	if all, e := Sum(a, []int{0}); e != api.OK || !same(all, a) {
		t.Errorf("%v: %v %v", l, all, e)
	}
}

func TestSumOfCountsThatFitsOrNot(t *testing.T) {
	for _, c := range []struct {
		l   []int64
		fit bool
	}{
		{[]int64{mostCount}, true}, {[]int64{mostCount, 0, 0}, true}, {[]int64{mostCount, 1}, false}, {[]int64{mostCount, -1}, false},
		{[]int64{1 << 61, 1 << 61}, true}, {[]int64{1 << 61, -1 << 61}, true}, {[]int64{1 << 61, 1<<61 + 1}, false}, {[]int64{1 << 61, -1<<61 - 1}, false},
		{[]int64{mostCount - 2, 1, -1}, true}, {[]int64{mostCount - 1, 1, -1}, false},
		{[]int64{mostCount, mostCount}, false}, {[]int64{mostCount, -mostCount}, false},
		// These sizes come to 2^64, and to more, which wraps round to nought, and to little.
		{slices.Repeat([]int64{mostCount}, 4), false}, {append(slices.Repeat([]int64{mostCount}, 4), 5), false}, {slices.Repeat([]int64{mostCount, -mostCount}, 2), false},
		{slices.Repeat([]int64{1 << 52}, 1024), true}, {append(slices.Repeat([]int64{1 << 52}, 1024), 1), false},
	} {
		for _, sign := range []int64{1, -1} {
			l := slices.Clone(c.l)
			for i := range l {
				l[i] *= sign
			}
			checkSumFit(t, l, sumOf(l), c.fit)
		}
	}
}

func TestSumOfPhasesThatFitsOrNot(t *testing.T) {
	for _, c := range []struct {
		l   []float64
		fit bool
	}{
		{[]float64{mostPart}, true}, {[]float64{mostPart, 0}, true}, {[]float64{mostPart, 1}, false}, {[]float64{mostPart, -1}, false},
		{[]float64{1 << 52, 1<<52 - 1}, true}, {[]float64{1 << 52, 1 - 1<<52}, true}, {[]float64{1 << 52, 1 << 52}, false}, {[]float64{1 << 52, -1 << 52}, false},
		{[]float64{mostPart - 2, 1, -1}, true}, {[]float64{mostPart - 1, 1, -1}, false}, {[]float64{mostPart, 1, 1, 1, -5}, false},
		{[]float64{mostPart, mostPart}, false}, {[]float64{mostPart, -mostPart}, false}, {[]float64{1, 1, mostPart}, false},
		{slices.Repeat([]float64{1 << 43}, 1023), true}, {slices.Repeat([]float64{1 << 43}, 1024), false},
	} {
		for _, sign := range []float64{1, -1} {
			firsts, seconds, both := []complex128{}, []complex128{}, []complex128{}
			for i, x := range c.l {
				firsts = append(firsts, complex(sign*x, float64(i)))
				seconds = append(seconds, complex(float64(-i), sign*x))
				both = append(both, complex(-sign*x, sign*x))
			}
			for _, l := range [][]complex128{firsts, seconds, both} {
				checkSumFit(t, l, sumOf(l), c.fit)
			}
		}
	}
	// Parts are summed apart: no more than the first ones come to the first part.
	checkSumFit(t, []complex128{complex(mostPart, 0), complex(0, mostPart)}, complex(mostPart, mostPart), true)
	checkSumFit(t, []complex128{complex(0, -mostPart), complex(-mostPart, 0)}, complex(-mostPart, -mostPart), true)
}

func TestMinOfGreatWeights(t *testing.T) {
	for _, c := range []struct {
		l    []int64
		want int64
	}{
		{[]int64{mostCount, mostCount, mostCount}, mostCount},
		{[]int64{mostCount, -mostCount, 0}, -mostCount},
		{[]int64{mostCount, mostCount - 1}, mostCount - 1},
		{[]int64{-mostCount, -mostCount + 1}, -mostCount},
		{[]int64{mostCount}, mostCount},
	} {
		if got := Min(numbered(c.l...), nil); !same(got, of(unit(), c.want)) || !right(got) {
			t.Errorf("%v: %v, not %v", c.l, got, c.want)
		}
	}
}

// checkSumsOfProducts: where nothing is shared, what is summed of a product is the product of what is summed of each.
func checkSumsOfProducts[W Number](t *testing.T, all []Weighted[W]) {
	t.Helper()
	none := func(a, b []int) bool {
		return !slices.ContainsFunc(a, func(v int) bool { return slices.Contains(b, v) })
	}
	for _, a := range all {
		for _, b := range all {
			if !none(a.Scheme, b.Scheme) {
				continue
			}
			for _, vars := range someVars {
				ab, e1 := Times(a, b, len(a.Rows)*len(b.Rows))
				sum, e2 := Sum(ab, vars)
				x, e3 := Sum(a, vars)
				y, e4 := Sum(b, vars)
				xy, e5 := Times(x, y, len(x.Rows)*len(y.Rows))
				if e := max(e1, e2, e3, e4, e5); e != api.OK || !same(sum, xy) {
					t.Fatalf("%v and %v, to %v: %v, not %v (%v)", a, b, vars, sum, xy, e)
				}
			}
		}
	}
}

func TestSumsOfProductsAreProductsOfSums(t *testing.T) {
	checkSumsOfProducts(t, smallWeighted(smallCount))
	checkSumsOfProducts(t, smallWeighted(smallPhase))
}

const room = -77

// withRoom hands out a list with room behind it, as a call that appends to it would write there.
func withRoom[T any](a []T, behind T) []T { return append(slices.Clone(a), behind, behind)[:len(a)] }

func copyOf[W Number](a Weighted[W]) Weighted[W] {
	out := Weighted[W]{W: withRoom(a.W, room)}
	out.Scheme = withRoom(a.Scheme, room)
	rows := make([][]int, len(a.Rows), len(a.Rows)+2)
	for i, t := range a.Rows {
		rows[i] = withRoom(t, room)
	}
	out.Rows = rows
	return out
}

func roomIsLeft[T comparable](l []T, behind T) bool {
	return slices.Equal(l[:len(l)+2][len(l):], []T{behind, behind})
}

// intact tells whether what was handed in, with room behind each list, is still what it was.
func intact[W Number](in, was Weighted[W]) bool {
	if !same(in, was) || !roomIsLeft(in.Scheme, room) || !roomIsLeft(in.W, room) {
		return false
	}
	for _, t := range in.Rows {
		if !roomIsLeft(t, room) {
			return false
		}
	}
	behind := in.Rows[:cap(in.Rows)][len(in.Rows):]
	return !slices.ContainsFunc(behind, func(t []int) bool { return t != nil })
}

func overwriteList[T any](l []T, with T) {
	l = l[:cap(l)]
	for i := range l {
		l[i] = with
	}
}

func overwrite[W Number](a Weighted[W]) {
	overwriteList(a.Scheme, 1000)
	overwriteList(a.W, 1000)
	for _, t := range a.Rows {
		overwriteList(t, 1000)
	}
	overwriteList(a.Rows, []int{-5})
}

// checkOwn fails where writing into one list of an answer is seen in another one.
func checkOwn[W Number](t *testing.T, got Weighted[W]) {
	t.Helper()
	want := copyOf(got)
	for i := range got.Rows {
		overwriteList(got.Rows[i], 1000)
		got.Rows[i] = want.Rows[i]
		if !same(got, want) {
			t.Fatalf("row %d is seen elsewhere: %v, not %v", i, got, want)
		}
	}
	overwriteList(got.Scheme, 1000)
	got.Scheme = want.Scheme
	if !same(got, want) {
		t.Fatalf("the scheme is seen elsewhere: %v, not %v", got, want)
	}
}

// checkKeepsNothing hands copies to a call, holds them against what they were, and writes over them.
func checkKeepsNothing[W Number](t *testing.T, name string, call func(l []Weighted[W]) Weighted[W], in ...Weighted[W]) {
	t.Helper()
	given := []Weighted[W]{}
	for _, a := range in {
		given = append(given, copyOf(a))
	}
	got := call(given)
	want := copyOf(got)
	for i := range in {
		if !intact(given[i], in[i]) {
			t.Fatalf("%s changed %v into %v", name, in[i], given[i])
		}
		overwrite(given[i])
	}
	if !same(got, want) {
		t.Fatalf("%s(%v) hangs on what was handed in: %v, not %v", name, in, got, want)
	}
	checkOwn(t, got)
}

func checkCallsKeepNothing[W Number](t *testing.T, all []Weighted[W], most int) {
	t.Helper()
	for _, a := range all {
		checkKeepsNothing(t, "Of", func(l []Weighted[W]) Weighted[W] { return Of(l[0].Rel, W(3)) }, a)
		checkKeepsNothing(t, "Right", func(l []Weighted[W]) Weighted[W] { Right(l[0]); return Weighted[W]{} }, a)
		for _, vars := range someVars {
			given := withRoom(vars, room)
			checkKeepsNothing(t, "Sum", func(l []Weighted[W]) Weighted[W] { s, _ := Sum(l[0], given); return s }, a)
			if !slices.Equal(given, vars) || !roomIsLeft(given, room) {
				t.Fatalf("Sum changed %v into %v", vars, given)
			}
		}
		for _, b := range all {
			checkKeepsNothing(t, "Times", func(l []Weighted[W]) Weighted[W] { p, _ := Times(l[0], l[1], most); return p }, a, b)
		}
	}
}

func TestCallsKeepNothing(t *testing.T) {
	for _, most := range []int{1000, 2} {
		checkCallsKeepNothing(t, smallWeighted(smallCount), most)
		checkCallsKeepNothing(t, smallWeighted(smallPhase), most)
	}
	great := []Weighted[int64]{Of(two(), mostCount), of[int64](relOf([]int{0, 1}, []int{1, 1}, []int{1, 2}), 1<<61, 1<<61+1), Of(unit(), mostCount)}
	checkCallsKeepNothing(t, great, 1000)
}

func TestCostsKeepNothing(t *testing.T) {
	great := []Weighted[int64]{Of(two(), mostCount), Of(unit(), mostCount)}
	all := append(smallWeighted(smallCount), great...)
	for _, a := range all {
		for _, vars := range someVars {
			given := withRoom(vars, room)
			checkKeepsNothing(t, "Min", func(l []Weighted[int64]) Weighted[int64] { return Min(l[0], given) }, a)
			if !slices.Equal(given, vars) || !roomIsLeft(given, room) {
				t.Fatalf("Min changed %v into %v", vars, given)
			}
		}
		for _, b := range all {
			checkKeepsNothing(t, "Plus", func(l []Weighted[int64]) Weighted[int64] { s, _ := Plus(l[0], l[1], 5); return s }, a, b)
		}
	}
}

// checkEnds holds that calls end, and do not panic, on what is not right, of which nothing else is promised.
func checkEnds[W Number](t *testing.T, weights ...[]W) {
	t.Helper()
	all := []Weighted[W]{}
	for _, r := range []api.Rel{
		{},
		unit(),
		two(),
		relOf([]int{1, 2}, nil, []int{1}, []int{1, 2, 3}),
		relOf([]int{2, 1, 2}, []int{0, 1}, nil, []int{4}),
		relOf([]int{2, 1, 2}, []int{0, 1, 0}, []int{0, 0, 0}),
		relOf([]int{5, 4, 3, 2, 1, 0}, []int{0, 1, 2, 3, 4, 5}),
		relOf([]int{-1, 3}, []int{5}),
		relOf([]int{math.MinInt, math.MaxInt}, []int{5, 5}),
		relOf(nil, []int{1}, []int{2, 3}),
		relOf([]int{0}, []int{2}, []int{1}, []int{2}),
	} {
		for _, w := range weights {
			all = append(all, of(r, w...))
		}
	}
	for _, a := range all {
		Right(a)
		for _, w := range slices.Concat(weights...) {
			Of(a.Rel, w)
		}
		for _, vars := range someVars {
			Sum(a, vars)
		}
		for _, b := range all {
			for _, most := range []int{-1, 0, 1, math.MaxInt} {
				Times(a, b, most)
			}
		}
	}
}

func TestWhatIsNotRightEnds(t *testing.T) {
	counts := [][]int64{nil, {1}, {math.MinInt64, math.MaxInt64}, {math.MinInt64, math.MinInt64, math.MinInt64, math.MinInt64}}
	checkEnds(t, counts...)
	nan, inf := math.NaN(), math.Inf(1)
	checkEnds(t, nil, []complex128{0.5}, []complex128{complex(nan, inf), complex(-inf, 1)}, []complex128{1e300, 1e300i, complex(inf, inf), 1})
	for _, r := range []api.Rel{two(), relOf([]int{2, 1, 2}, []int{0, 1}, nil), relOf([]int{5, 4, 3, 2, 1, 0}, []int{0, 1, 2, 3, 4, 5})} {
		for _, w := range counts {
			for _, vars := range someVars {
				Min(of(r, w...), vars)
			}
			Plus(of(r, w...), Of(two(), int64(math.MinInt64)), 10)
			Plus(Of(unit(), int64(math.MaxInt64)), of(r, w...), 10)
		}
	}
}
