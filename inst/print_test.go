package inst

import (
	"math/rand"
	"reflect"
	"slices"
	"strconv"
	"strings"
	"testing"

	"arborist/api"
)

// plain is the instance with nil for each empty list, as both are the same.
func plain(x api.Instance) api.Instance {
	out := api.Instance{}
	for _, d := range x.Domains {
		out.Domains = append(out.Domains, plainRow(d))
	}
	for _, c := range x.Hard {
		out.Hard = append(out.Hard, api.Constraint{Kind: c.Kind, Scope: plainRow(c.Scope), Rows: plainRows(c.Rows), Args: plainRow(c.Args)})
	}
	for _, s := range x.Soft {
		out.Soft = append(out.Soft, api.Soft{Scope: plainRow(s.Scope), Rows: plainRows(s.Rows), Costs: append([]int64(nil), s.Costs...), Default: s.Default})
	}
	return out
}

func plainRow(l []int) []int { return append([]int(nil), l...) }

func plainRows(l [][]int) [][]int {
	var out [][]int
	for _, row := range l {
		out = append(out, plainRow(row))
	}
	return out
}

func isSame(a, b api.Instance) bool { return reflect.DeepEqual(plain(a), plain(b)) }

// toldAs tells anew what F2 says of Print, of any instance whose kinds are some.
func toldAs(x api.Instance) string {
	list := func(l []int) string {
		out := ""
		for _, n := range l {
			out += " " + strconv.Itoa(n)
		}
		return out
	}
	lines := []string{}
	for _, d := range x.Domains {
		lines = append(lines, "var"+list(d))
	}
	for _, c := range x.Hard {
		name := strings.Fields("? table forbid diff equal rising linear")[c.Kind]
		parts := []string{}
		for _, row := range c.Rows {
			parts = append(parts, list(row))
		}
		switch c.Kind {
		case 1, 2:
			lines = append(lines, name+list(c.Scope)+":"+strings.Join(parts, ","))
		case 6:
			n := len(c.Args) - 2
			for i, v := range c.Scope {
				parts = append(parts, list([]int{c.Args[i], v}))
			}
			lines = append(lines, name+strings.Join(parts, ",")+": "+[]string{"eq", "le", "ne"}[c.Args[n]]+list(c.Args[n+1:]))
		default:
			lines = append(lines, name+list(c.Scope))
		}
	}
	for _, s := range x.Soft {
		line := "soft" + list(s.Scope) + ": " + strconv.FormatInt(s.Default, 10)
		for i, row := range s.Rows {
			line += "," + list(row) + " " + strconv.FormatInt(s.Costs[i], 10)
		}
		lines = append(lines, line)
	}
	out := ""
	for _, line := range lines {
		out += line + ";\n"
	}
	return out
}

func TestPrint(t *testing.T) {
	one := variables(2)
	for _, c := range []struct {
		x    api.Instance
		want string
	}{
		{api.Instance{}, ""},
		{sample(), sampleText},
		{api.Instance{Domains: [][]int{{0, 1}}, Hard: []api.Constraint{{Kind: api.Diff, Scope: []int{0}}}}, "var 0 1;\ndiff 0;\n"},
		{api.Instance{Domains: [][]int{{-1000000, 0, 1000000}}}, "var -1000000 0 1000000;\n"},
		{api.Instance{Domains: one, Hard: []api.Constraint{{Kind: api.Linear, Scope: []int{1}, Args: []int{-1, api.Eq, -4}}}}, "var 0 1;\nvar 0 1;\nlinear -1 1: eq -4;\n"},
		{api.Instance{Domains: one, Hard: []api.Constraint{{Kind: api.Linear, Scope: []int{0, 1}, Args: []int{1, 2, api.Ne, 0}}}}, "var 0 1;\nvar 0 1;\nlinear 1 0, 2 1: ne 0;\n"},
		{api.Instance{Domains: one, Soft: []api.Soft{{Scope: []int{0}, Default: -1000000000000, Rows: [][]int{{1}}, Costs: []int64{1000000000000}}}}, "var 0 1;\nvar 0 1;\nsoft 0: -1000000000000, 1 1000000000000;\n"},
	} {
		if got := Print(c.x); got != c.want {
			t.Errorf("%q, not %q", got, c.want)
		}
	}
}

func TestNothingIsPrintedOfWhatIsNotRight(t *testing.T) {
	x := sample()
	x.Soft[1].Scope = []int{3}
	if got := Print(x); got != "" {
		t.Errorf("%q", got)
	}
}

// rows of a scope, rising, each kept by a throw.
func thrownRows(r *rand.Rand, domains [][]int, scope []int) [][]int {
	rows := [][]int{{}}
	for _, v := range scope {
		longer := [][]int{}
		for _, row := range rows {
			for _, n := range domains[v] {
				longer = append(longer, append(slices.Clone(row), n))
			}
		}
		rows = longer
	}
	return slices.DeleteFunc(rows, func([]int) bool { return r.Intn(3) > 0 })
}

func thrownScope(r *rand.Rand, variables int) []int {
	scope := r.Perm(variables)[:1+r.Intn(min(variables, api.MaxArity))]
	slices.Sort(scope)
	return scope
}

func thrownDomain(r *rand.Rand) []int {
	d := []int{}
	for range 1 + r.Intn(3) {
		d = append(d, r.Intn(11)-5)
	}
	slices.Sort(d)
	return slices.Compact(d)
}

func thrownHard(r *rand.Rand, domains [][]int) api.Constraint {
	c := api.Constraint{Kind: 1 + r.Intn(6), Scope: thrownScope(r, len(domains))}
	if c.Kind <= 2 {
		c.Rows = thrownRows(r, domains, c.Scope)
	}
	if c.Kind == 6 {
		for range c.Scope {
			c.Args = append(c.Args, []int{-1000000, -3, -1, 1, 2, 1000000}[r.Intn(6)])
		}
		c.Args = append(c.Args, r.Intn(3), []int{-1000000, -3, 0, 2, 1000000}[r.Intn(5)])
	}
	return c
}

func thrownSoft(r *rand.Rand, domains [][]int) api.Soft {
	s := api.Soft{Scope: thrownScope(r, len(domains)), Default: r.Int63n(2*api.MaxCost+1) - api.MaxCost}
	s.Rows = thrownRows(r, domains, s.Scope)
	for range s.Rows {
		s.Costs = append(s.Costs, r.Int63n(9)-4)
	}
	return s
}

// thrown is a right instance.
func thrown(r *rand.Rand) api.Instance {
	x := api.Instance{}
	for range r.Intn(8) {
		x.Domains = append(x.Domains, thrownDomain(r))
	}
	for len(x.Domains) > 0 && r.Intn(4) > 0 {
		x.Hard = append(x.Hard, thrownHard(r, x.Domains))
	}
	for len(x.Domains) > 0 && r.Intn(3) > 0 {
		x.Soft = append(x.Soft, thrownSoft(r, x.Domains))
	}
	return x
}

func TestWhatIsPrintedIsReadAsItWas(t *testing.T) {
	r := rand.New(rand.NewSource(6))
	for range 3000 {
		x := thrown(r)
		text := Print(x)
		if !Right(x) || text != toldAs(x) {
			t.Fatalf("%v %q", Right(x), text)
		}
		if len(text) > api.MaxText {
			continue
		}
		if y, at, e := Parse(text); at != 0 || e != api.OK || !isSame(x, y) {
			t.Fatalf("%q: %v, %d %v", text, y, at, e)
		}
	}
}

// bend changes one number of an instance, or leaves one item of a list out, or tells it twice.
func bend(r *rand.Rand, x *api.Instance) {
	bends := []func(){}
	row := func(l *[]int) { bends = append(bends, bendsOfRow(r, l)...) }
	rows := func(l *[][]int) {
		bends = append(bends, bendsOfList(r, l)...)
		for i := range *l {
			row(&(*l)[i])
		}
	}
	rows(&x.Domains)
	for i := range x.Hard {
		c := &x.Hard[i]
		bends = append(bends, func() { c.Kind = r.Intn(9) - 1 })
		row(&c.Scope)
		row(&c.Args)
		rows(&c.Rows)
	}
	for i := range x.Soft {
		s := &x.Soft[i]
		bends = append(bends, func() { s.Default = thrownCost(r) })
		row(&s.Scope)
		rows(&s.Rows)
		bends = append(bends, bendsOfList(r, &s.Costs)...)
		for k := range s.Costs {
			bends = append(bends, func() { s.Costs[k] = thrownCost(r) })
		}
	}
	bends[r.Intn(len(bends))]()
}

func thrownCost(r *rand.Rand) int64 {
	return []int64{-api.MaxCost - 1, -api.MaxCost, 0, api.MaxCost, api.MaxCost + 1}[r.Intn(5)]
}

func bendsOfRow(r *rand.Rand, l *[]int) []func() {
	out := bendsOfList(r, l)
	for i := range *l {
		out = append(out, func() { (*l)[i] = r.Intn(13) - 6 })
		out = append(out, func() { (*l)[i] = (r.Intn(2)*2 - 1) * (api.MaxValue + r.Intn(2)) })
	}
	return out
}

func bendsOfList[T any](r *rand.Rand, l *[]T) []func() {
	if len(*l) == 0 {
		return []func(){func() { *l = make([]T, 1) }}
	}
	i := r.Intn(len(*l))
	return []func(){
		func() { *l = slices.Delete(slices.Clone(*l), i, i+1) },
		func() { *l = slices.Insert(slices.Clone(*l), i, (*l)[i]) },
		func() { *l = append(slices.Clone(*l), (*l)[i]) },
	}
}

// isLong tells whether there are so many rows that the text may be too long to be read.
func isLong(x api.Instance) bool {
	n := 0
	for _, c := range x.Hard {
		n += len(c.Rows)
	}
	for _, s := range x.Soft {
		n += len(s.Rows)
	}
	return n > 2000
}

// isReadAsItIs tells whether an instance is what a text tells, which is so of the right ones alone.
func isReadAsItIs(x api.Instance) bool {
	for _, c := range x.Hard {
		n := len(c.Scope)
		if c.Kind < 1 || c.Kind > 6 || c.Kind == 6 && (len(c.Args) != n+2 || c.Args[n] < 0 || c.Args[n] > 2) {
			return false
		}
	}
	for _, s := range x.Soft {
		if len(s.Costs) != len(s.Rows) {
			return false
		}
	}
	y, _, e := Parse(toldAs(x))
	return e == api.OK && isSame(x, y)
}

func TestWhatIsNotRightCannotBeRead(t *testing.T) {
	r := rand.New(rand.NewSource(66))
	counts := [2]int{}
	for range 20000 {
		x := thrown(r)
		bend(r, &x)
		if isLong(x) {
			continue
		}
		want := isReadAsItIs(x)
		if got := Right(x); got != want {
			t.Fatalf("%v: %v", x, got)
		}
		if text := Print(x); !want && text != "" || want && text != toldAs(x) {
			t.Fatalf("%v: %q", x, text)
		}
		if want {
			counts[1]++
		} else {
			counts[0]++
		}
	}
	if counts[0] < 2000 || counts[1] < 500 {
		t.Error(counts)
	}
}

func TestRightAndPrintChangeNothing(t *testing.T) {
	x := sample()
	Right(x)
	text := Print(x)
	if !isSame(x, sample()) {
		t.Errorf("%v", x)
	}
	x.Domains[0][0], x.Hard[0].Rows[0][0], x.Hard[5].Args[0], x.Soft[0].Costs[0] = 9, 9, 9, 9
	if text != sampleText {
		t.Errorf("%q", text)
	}
	wrong := sample()
	wrong.Hard[0].Rows = [][]int{{4, 2}, {-1, 1}}
	wrong.Domains[1] = []int{2, 1}
	again := plain(wrong)
	Right(wrong)
	Print(wrong)
	if !isSame(wrong, again) {
		t.Errorf("%v", wrong)
	}
}

func TestMoreThanATextMayHaveIsPrinted(t *testing.T) {
	x := api.Instance{Domains: slices.Repeat([][]int{upTo(16)}, 6)}
	rows := [][]int{}
	for n := range 16 * 16 * 16 {
		rows = append(rows, []int{n / 4096, n / 4096, n / 4096, n / 256 % 16, n / 16 % 16, n % 16})
	}
	for range 3 {
		x.Hard = append(x.Hard, api.Constraint{Kind: api.Table, Scope: upTo(6), Rows: rows})
	}
	text := Print(x)
	if len(text) <= api.MaxText || text != toldAs(x) {
		t.Error(len(text))
	}
	if y, at, e := Parse(text); at != 0 || e != api.ErrMany || !isSame(y, api.Instance{}) {
		t.Error(at, e)
	}
}
