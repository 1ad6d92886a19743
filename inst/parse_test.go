package inst

import (
	"math/rand"
	"reflect"
	"slices"
	"strconv"
	"strings"
	"testing"

	"arborist/api"
	"arborist/scan"
)

// checkRefused takes a text with a mark, '@', ahead of the token that is wrong.
func checkRefused(t *testing.T, marked string, want api.Errno) {
	t.Helper()
	place := strings.Index(marked, "@")
	text := strings.Replace(marked, "@", "", 1)
	x, at, e := Parse(text)
	if e != want || at != place || !reflect.DeepEqual(x, api.Instance{}) {
		t.Errorf("%.100q: %v at %d, not %v at %d", text, e, at, want, place)
	}
}

func checkRead(t *testing.T, text string, want api.Instance) {
	t.Helper()
	x, at, e := Parse(text)
	if e != api.OK || at != 0 || !isSame(x, want) || !Right(x) {
		t.Errorf("%.100q: %v, %v at %d", text, x, e, at)
	}
}

// list tells numbers with a blank between them.
func list(l ...int) string {
	out := []string{}
	for _, n := range l {
		out = append(out, strconv.Itoa(n))
	}
	return strings.Join(out, " ")
}

func TestParse(t *testing.T) {
	checkRead(t, "", api.Instance{})
	checkRead(t, " \n\t# var 1;\n", api.Instance{})
	checkRead(t, sampleText, sample())
	checkRead(t, strings.ReplaceAll(sampleText, "\n", ""), sample())
	checkRead(t, strings.ReplaceAll(sampleText, " ", "\n# ;\n\t"), sample())
	checkRead(t, "var 0 1; diff 0;", api.Instance{Domains: [][]int{{0, 1}}, Hard: []api.Constraint{{Kind: api.Diff, Scope: []int{0}}}})
}

func TestParseOfStatementsInAnyOrder(t *testing.T) {
	checkRead(t, "var 3; soft 0:1,3 2; rising 0; var 4; linear 1 0,2 1:ne 0; soft 1:-1; table 0 1:3 4; var 5; diff 0 2;", api.Instance{
		Domains: [][]int{{3}, {4}, {5}},
		Hard: []api.Constraint{
			{Kind: api.Rising, Scope: []int{0}},
			{Kind: api.Linear, Scope: []int{0, 1}, Args: []int{1, 2, api.Ne, 0}},
			{Kind: api.Table, Scope: []int{0, 1}, Rows: [][]int{{3, 4}}},
			{Kind: api.Diff, Scope: []int{0, 2}},
		},
		Soft: []api.Soft{
			{Scope: []int{0}, Rows: [][]int{{3}}, Costs: []int64{2}, Default: 1},
			{Scope: []int{1}, Default: -1},
		},
	})
}

func TestParseOfEachHow(t *testing.T) {
	for how, word := range []string{"eq", "le", "ne"} {
		checkRead(t, "var 1; linear -7 0: "+word+" 8;", api.Instance{
			Domains: [][]int{{1}},
			Hard:    []api.Constraint{{Kind: api.Linear, Scope: []int{0}, Args: []int{-7, how, 8}}},
		})
	}
}

func TestParseOfEachKind(t *testing.T) {
	for kind := 1; kind <= 5; kind++ {
		name := strings.Fields("? table forbid diff equal rising")[kind]
		x := api.Instance{Domains: [][]int{{1, 2}}, Hard: []api.Constraint{{Kind: kind, Scope: []int{0}}}}
		if kind > 2 {
			checkRead(t, "var 1 2; "+name+" 0;", x)
			checkRefused(t, "var 1 2; "+name+" 0@:;", api.ErrWord)
			checkRefused(t, "var 1 2; "+name+" 0@, 1;", api.ErrWord)
			continue
		}
		checkRead(t, "var 1 2; "+name+" 0:;", x)
		x.Hard[0].Rows = [][]int{{1}, {2}}
		checkRead(t, "var 1 2; "+name+" 0: 1, 2;", x)
		checkRefused(t, "var 1 2; "+name+" 0@;", api.ErrWord)
		checkRefused(t, "var 1 2; "+name+" 0@, 1;", api.ErrWord)
	}
}

func TestParseUpToTheLimits(t *testing.T) {
	six := strings.Repeat("var 0 1;", 7)
	checkRead(t, strings.Repeat("var 0 1;", 40), api.Instance{Domains: variables(40)})
	checkRead(t, "var "+list(upTo(16)...)+";", api.Instance{Domains: [][]int{upTo(16)}})
	checkRead(t, "var -1000000 1000000;", api.Instance{Domains: [][]int{{-1000000, 1000000}}})
	checkRead(t, six+"equal 0 1 2 3 4 6;", api.Instance{Domains: variables(7), Hard: []api.Constraint{{Kind: api.Equal, Scope: []int{0, 1, 2, 3, 4, 6}}}})
	checkRead(t, six+"soft 0 1 2 3 4 6:-1000000000000, 0 1 0 1 0 1 1000000000000;", api.Instance{Domains: variables(7), Soft: []api.Soft{
		{Scope: []int{0, 1, 2, 3, 4, 6}, Rows: [][]int{{0, 1, 0, 1, 0, 1}}, Costs: []int64{1000000000000}, Default: -1000000000000}}})
	checkRead(t, six+"linear 1000000 0, -1000000 1, 1 2, 1 3, 1 4, 1 6: eq 1000000; linear 1 0: le -1000000;", api.Instance{Domains: variables(7), Hard: []api.Constraint{
		{Kind: api.Linear, Scope: []int{0, 1, 2, 3, 4, 6}, Args: []int{1000000, -1000000, 1, 1, 1, 1, api.Eq, 1000000}},
		{Kind: api.Linear, Scope: []int{0}, Args: []int{1, api.Le, -1000000}}}})
	all := api.Instance{Domains: variables(1)}
	for range 200 {
		all.Hard = append(all.Hard, api.Constraint{Kind: api.Diff, Scope: []int{0}})
		all.Soft = append(all.Soft, api.Soft{Scope: []int{0}, Default: 1})
	}
	checkRead(t, "var 0 1;"+strings.Repeat("diff 0;soft 0:1;", 200), all)
}

func TestParseOfTooMany(t *testing.T) {
	most := strings.Repeat("var 0 1;", 40)
	checkRefused(t, most+"@var 0 1;", api.ErrMany)
	checkRefused(t, most+"@var", api.ErrMany)
	checkRefused(t, most+"diff 0;@var ;", api.ErrMany)
	checkRefused(t, most+"@vars", api.ErrWord)
	for _, statement := range []string{"table 0:;", "forbid 0:;", "diff 0;", "equal 0;", "rising 0;", "linear 1 0: eq 0;"} {
		checkRefused(t, "var 0;"+strings.Repeat("diff 0;", 200)+"soft 0:0;var 1;@"+statement, api.ErrMany)
		checkRefused(t, "var 0;"+strings.Repeat(statement, 200)+"@rising 9;", api.ErrMany)
	}
	checkRefused(t, "var 0;"+strings.Repeat("soft 0:1;", 200)+"diff 0;var 1;@soft 0:1;", api.ErrMany)
	checkRefused(t, "var 0;"+strings.Repeat("soft 0:1;", 200)+"@soft;", api.ErrMany)
	checkRefused(t, "var "+list(upTo(16)...)+" @16;", api.ErrMany)
	vars := strings.Repeat("var 0 1;", 8)
	for _, word := range []string{"table", "forbid", "diff", "equal", "rising", "soft"} {
		checkRefused(t, vars+word+" 0 1 2 3 4 5 @6: 0;", api.ErrMany)
	}
	checkRefused(t, vars+"linear 1 0, 1 1, 1 2, 1 3, 1 4, 1 5, 1 @6: eq 0;", api.ErrMany)
}

func TestParseOfWrongBeginnings(t *testing.T) {
	for _, wrong := range []string{"@vars 1;", "@va 1;", "@eq;", "@le 1;", "@ne 1;", "@x", "@;", "@:", "@,", "@5", "@-1", "@0"} {
		checkRefused(t, wrong, api.ErrWord)
		checkRefused(t, "var 1; "+wrong, api.ErrWord)
		checkRefused(t, "var 1; diff 0; "+wrong, api.ErrWord)
	}
}

func TestParseOfWrongDomains(t *testing.T) {
	checkRefused(t, "var@;", api.ErrWord)
	checkRefused(t, "var@", api.ErrWord)
	checkRefused(t, "var @x;", api.ErrWord)
	checkRefused(t, "var @: 1;", api.ErrWord)
	checkRefused(t, "var 1@", api.ErrWord)
	checkRefused(t, "var 1 @var 1;", api.ErrWord)
	checkRefused(t, "var 1@, 2;", api.ErrWord)
	checkRefused(t, "var 1@:;", api.ErrWord)
	checkRefused(t, "var @1000001;", api.ErrRange)
	checkRefused(t, "var @-1000001;", api.ErrRange)
	checkRefused(t, "var 0 @1000000000000;", api.ErrRange)
	checkRefused(t, "var 2 @1;", api.ErrRow)
	checkRefused(t, "var 2 @2;", api.ErrRow)
	checkRefused(t, "var 1 3 @2 1;", api.ErrRow)
}

func TestParseOfWrongScopes(t *testing.T) {
	for _, word := range []string{"table", "forbid", "diff", "equal", "rising", "soft"} {
		checkRefused(t, "var 1; var 1; "+word+"@;", api.ErrWord)
		checkRefused(t, "var 1; var 1; "+word+"@: 1;", api.ErrWord)
		checkRefused(t, "var 1; var 1; "+word+" @x;", api.ErrWord)
		checkRefused(t, "var 1; var 1; "+word+"@", api.ErrWord)
		checkRefused(t, "var 1; var 1; "+word+" 0@", api.ErrWord)
		checkRefused(t, "var 1; var 1; "+word+" 0 @x", api.ErrWord)
		checkRefused(t, "var 1; var 1; "+word+" @2", api.ErrScope)
		checkRefused(t, "var 1; var 1; "+word+" 0 1 @2", api.ErrScope)
		checkRefused(t, "var 1; var 1; "+word+" @-1", api.ErrScope)
		checkRefused(t, "var 1; var 1; "+word+" 1 @0", api.ErrScope)
		checkRefused(t, "var 1; var 1; "+word+" 1 @1", api.ErrScope)
		// No variable is too great a number: there is none such.
		checkRefused(t, "var 1; var 1; "+word+" @1000001", api.ErrScope)
		checkRefused(t, "var 1; var 1; "+word+" @-1000000000000", api.ErrScope)
		checkRefused(t, word+" @0: 1; var 1;", api.ErrScope)
		checkRefused(t, "var 1; "+word+" 0 @1: 1; var 1;", api.ErrScope)
	}
}

func TestParseOfWrongRows(t *testing.T) {
	vars := "var 1 2; var 3 4;"
	for _, word := range []string{"table", "forbid"} {
		checkRefused(t, vars+word+" 0 1:@", api.ErrWord)
		checkRefused(t, vars+word+" 0 1:@, 1 3;", api.ErrWord)
		checkRefused(t, vars+word+" 0 1:@: 1 3;", api.ErrWord)
		checkRefused(t, vars+word+" 0 1: @eq 3;", api.ErrWord)
		checkRefused(t, vars+word+" 0 1: 1@;", api.ErrWord)
		checkRefused(t, vars+word+" 0 1: 1@, 3;", api.ErrWord)
		checkRefused(t, vars+word+" 0 1: 1 3 @3;", api.ErrWord)
		checkRefused(t, vars+word+" 0 1: 1 3@:", api.ErrWord)
		checkRefused(t, vars+word+" 0 1: 1 3@", api.ErrWord)
		checkRefused(t, vars+word+" 0 1: 1 3,@;", api.ErrWord)
		checkRefused(t, vars+word+" 0 1: 1 3,@, 1 4;", api.ErrWord)
		checkRefused(t, vars+word+" 0 1: 1 3, 2@", api.ErrWord)
		checkRefused(t, vars+word+" 0 1: @0 3;", api.ErrRow)
		checkRefused(t, vars+word+" 0 1: @3 3;", api.ErrRow)
		checkRefused(t, vars+word+" 0 1: 1 @1;", api.ErrRow)
		checkRefused(t, vars+word+" 0 1: 1 3, 1 @5;", api.ErrRow)
		checkRefused(t, vars+word+" 1: @1;", api.ErrRow)
		checkRefused(t, vars+word+" 0 1: @1000001 3;", api.ErrRange)
		checkRefused(t, vars+word+" 0 1: 1 @-1000001;", api.ErrRange)
		checkRefused(t, vars+word+" 0 1: 1 @1000000;", api.ErrRow)
	}
}

func TestParseOfRowsThatDoNotRise(t *testing.T) {
	vars := "var 1 2; var 3 4;"
	for _, word := range []string{"table", "forbid"} {
		checkRefused(t, vars+word+" 0 1: 1 3, @1 3;", api.ErrRow)
		checkRefused(t, vars+word+" 0 1: 1 4, @1 3;", api.ErrRow)
		checkRefused(t, vars+word+" 0 1: 2 3, @1 4;", api.ErrRow)
		checkRefused(t, vars+word+" 0 1: 1 3, 2 3, @1 4;", api.ErrRow)
		// What is wrong within the row goes ahead, what is wrong behind it does not.
		checkRefused(t, vars+word+" 0 1: 2 3, 1 @7;", api.ErrRow)
		checkRefused(t, vars+word+" 0 1: 2 3, 1 @1000001;", api.ErrRange)
		checkRefused(t, vars+word+" 0 1: 2 3, 1@;", api.ErrWord)
		checkRefused(t, vars+word+" 0 1: 2 3, 1 @x;", api.ErrWord)
		checkRefused(t, vars+word+" 0 1: 2 3, @1 4 4;", api.ErrRow)
		checkRefused(t, vars+word+" 0 1: 2 3, @1 4", api.ErrRow)
	}
	checkRefused(t, vars+"soft 0 1: 5, 1 3 0, @1 3 0;", api.ErrRow)
	checkRefused(t, vars+"soft 0 1: 5, 2 3 0, @1 4 9;", api.ErrRow)
	checkRefused(t, vars+"soft 0 1: 5, 2 3 0, @1 4;", api.ErrRow)
	checkRefused(t, vars+"soft 0 1: 5, 2 3 0, 1 @9;", api.ErrRow)
	checkRefused(t, vars+"soft 0 1: 5, 2 3 0, 1@;", api.ErrWord)
	checkRead(t, vars+"soft 0: 5, 1 9, 2 0;", api.Instance{Domains: [][]int{{1, 2}, {3, 4}}, Soft: []api.Soft{
		{Scope: []int{0}, Rows: [][]int{{1}, {2}}, Costs: []int64{9, 0}, Default: 5}}})
	// Rows of one constraint have nothing to do with those of another.
	checkRead(t, "var 1 2; table 0: 2; table 0: 1;", api.Instance{Domains: [][]int{{1, 2}}, Hard: []api.Constraint{
		{Kind: api.Table, Scope: []int{0}, Rows: [][]int{{2}}}, {Kind: api.Table, Scope: []int{0}, Rows: [][]int{{1}}}}})
}

func TestParseOfWrongLinears(t *testing.T) {
	vars := "var 1; var 2; var 3;"
	for marked, want := range map[string]api.Errno{
		"linear@;":                       api.ErrWord,
		"linear @: eq 0;":                api.ErrWord,
		"linear @x 0: eq 0;":             api.ErrWord,
		"linear 1@: eq 0;":               api.ErrWord,
		"linear 1@, 1 0: eq 0;":          api.ErrWord,
		"linear 1 0@;":                   api.ErrWord,
		"linear 1 0 @1 1: eq 0;":         api.ErrWord,
		"linear 1 0 @eq 0;":              api.ErrWord,
		"linear 1 0,@: eq 0;":            api.ErrWord,
		"linear 1 0: @x 0;":              api.ErrWord,
		"linear 1 0: @var 0;":            api.ErrWord,
		"linear 1 0: @soft 0;":           api.ErrWord,
		"linear 1 0: @0;":                api.ErrWord,
		"linear 1 0:@;":                  api.ErrWord,
		"linear 1 0:@":                   api.ErrWord,
		"linear 1 0: eq@;":               api.ErrWord,
		"linear 1 0: eq @eq 0;":          api.ErrWord,
		"linear 1 0: eq 0@":              api.ErrWord,
		"linear 1 0: eq 0@, 1;":          api.ErrWord,
		"linear 1 0: eq 0 @1;":           api.ErrWord,
		"linear 1 0: eq 0@: 1;":          api.ErrWord,
		"linear @0 0: eq 0;":             api.ErrRange,
		"linear 1 0, @0 1: eq 0;":        api.ErrRange,
		"linear @0 9: eq 0;":             api.ErrRange,
		"linear @1000001 0: eq 0;":       api.ErrRange,
		"linear @-1000001 0: eq 0;":      api.ErrRange,
		"linear 1 0, @1000001 1: eq 0;":  api.ErrRange,
		"linear 1 0: eq @1000001;":       api.ErrRange,
		"linear 1 0: le @-1000001;":      api.ErrRange,
		"linear 1 @3: eq 0;":             api.ErrScope,
		"linear 1 @-1: eq 0;":            api.ErrScope,
		"linear 1 @1000001: eq 0;":       api.ErrScope,
		"linear 1 1, 1 @0: eq 0;":        api.ErrScope,
		"linear 1 1, 1 @1: eq 0;":        api.ErrScope,
		"linear 1 0, 1 1, 1 @3: eq 0;":   api.ErrScope,
		"linear 1 @3; var 4;":            api.ErrScope,
		"linear 1 0, 2 2, 1 @1: eq 0;":   api.ErrScope,
		"linear 1 0: eq @-1000000000000": api.ErrRange,
	} {
		checkRefused(t, vars+marked, want)
	}
}

func TestParseOfWrongSofts(t *testing.T) {
	vars := "var 1 2; var 3 4;"
	for marked, want := range map[string]api.Errno{
		"soft 0@;":                        api.ErrWord,
		"soft 0@, 5;":                     api.ErrWord,
		"soft 0:@;":                       api.ErrWord,
		"soft 0:@":                        api.ErrWord,
		"soft 0:@, 1 5;":                  api.ErrWord,
		"soft 0: @eq;":                    api.ErrWord,
		"soft 0: 5@":                      api.ErrWord,
		"soft 0: 5@: 1 5;":                api.ErrWord,
		"soft 0: 5 @1 5;":                 api.ErrWord,
		"soft 0: 5,@;":                    api.ErrWord,
		"soft 0: 5,@, 1 5;":               api.ErrWord,
		"soft 0: 5, 1@;":                  api.ErrWord,
		"soft 0: 5, 1@, 2 5;":             api.ErrWord,
		"soft 0: 5, 1 @x;":                api.ErrWord,
		"soft 0 1: 5, 1 3@;":              api.ErrWord,
		"soft 0: 5, 1 5@":                 api.ErrWord,
		"soft 0: 5, 1 5 @5;":              api.ErrWord,
		"soft 0: 5, 1 5@: 2 5;":           api.ErrWord,
		"soft 0: 5, @3 5;":                api.ErrRow,
		"soft 0 1: 5, 1 @5 5;":            api.ErrRow,
		"soft 0 1: 5, @1000001 3 5;":      api.ErrRange,
		"soft 0 1: 5, 1 @-1000000000000;": api.ErrRange,
		// A number that no token can be.
		"soft 0: @1000000000001;":          api.ErrRange,
		"soft 0: 5, 1 @-1000000000001;":    api.ErrRange,
		"diff 0 0; soft 0: @1000000000001": api.ErrRange,
	} {
		checkRefused(t, vars+marked, want)
	}
}

// Where more than one error applies to one token, the first that is written is told.
func TestParseOfTokensThatAreWrongTwice(t *testing.T) {
	vars := strings.Repeat("var 0 1;", 7)
	checkRefused(t, "var "+list(upTo(16)...)+" @1000001;", api.ErrRange)
	checkRefused(t, "var "+list(upTo(16)...)+" @0;", api.ErrMany)
	checkRefused(t, "var 5 @-1000001;", api.ErrRange)
	checkRefused(t, vars+"diff 0 1 2 3 4 5 @0;", api.ErrMany)
	checkRefused(t, vars+"diff 0 1 2 3 4 5 @99;", api.ErrMany)
	checkRefused(t, vars+"linear 1 0, 1 1, 1 2, 1 3, 1 4, 1 5, @0 6: eq 0;", api.ErrRange)
	checkRefused(t, vars+"linear 1 0, 1 1, 1 2, 1 3, 1 4, 1 5, 1 @0: eq 0;", api.ErrMany)
	checkRefused(t, vars+"table 0: @-1000001;", api.ErrRange)
}

// The first token that is wrong is told, but the words of the text go ahead of all.
func TestParseOfManyFaults(t *testing.T) {
	checkRefused(t, "var 2 @1; var 1000001; x", api.ErrRow)
	checkRefused(t, "var 1; diff @1; var; table", api.ErrScope)
	checkRefused(t, "var 2 1; @$", api.ErrChar)
	checkRefused(t, "@$ var 2 1", api.ErrChar)
	checkRefused(t, "x @01", api.ErrChar)
	checkRefused(t, "x @-0", api.ErrChar)
	checkRefused(t, "; @1000000000001 $", api.ErrRange)
	checkRefused(t, "x @Var", api.ErrChar)
	checkRefused(t, "@"+strings.Repeat(" ", api.MaxText+1), api.ErrMany)
	checkRefused(t, "@$"+strings.Repeat(" ", api.MaxText), api.ErrMany)
	checkRefused(t, strings.Repeat(" ", api.MaxText-1)+"@;", api.ErrWord)
	checkRead(t, "var 7;"+strings.Repeat(" ", api.MaxText-6), api.Instance{Domains: [][]int{{7}}})
}

func TestParseSharesNothing(t *testing.T) {
	text := strings.Repeat("var 1 2;", 2) + "table 0 1: 1 1, 2 2; forbid 0 1: 1 1, 2 2; linear 1 0, 2 1: eq 1; soft 0 1: 0, 1 1 1, 2 2 2;"
	x, _, _ := Parse(text)
	y, _, _ := Parse(text)
	lists := [][]int{}
	lists = append(lists, x.Domains...)
	for _, c := range x.Hard {
		lists = append(append(append(lists, c.Rows...), c.Scope), c.Args)
	}
	lists = append(append(lists, x.Soft[0].Rows...), x.Soft[0].Scope)
	for i, l := range lists {
		// Also what stands behind a list is its own.
		l = l[:cap(l)]
		for k := range l {
			l[k] = 1000 + i
		}
	}
	for i, l := range lists {
		for _, n := range l {
			if n != 1000+i {
				t.Fatalf("%d: %v", i, l)
			}
		}
	}
	if z, _, _ := Parse(text); !isSame(y, z) || isSame(x, y) {
		t.Errorf("%v %v", y, z)
	}
}

// machine tells anew, token by token, what F2 says of Parse.
type machine struct {
	state      string
	word       string
	domains    [][]int
	hard, soft int
	list       []int // of the statement: its domain, or its scope
	row, ahead []int
	rowAt      int
}

func (m *machine) step(t scan.Token) (int, api.Errno) {
	isNumber := t.Kind == scan.Number
	switch {
	case m.state == "begin":
		return m.begin(t)
	case m.state == "row;" && t.Text == ";":
		return m.goOn("begin")
	case (m.state == "domain" || m.state == "scope") && !isNumber && len(m.list) > 0:
		return m.afterList(t)
	case m.state == "how" && (t.Text == "eq" || t.Text == "le" || t.Text == "ne"):
		return m.goOn("number")
	case (m.state == ";" || m.state == ",;" || m.state == ",:") && t.Kind == scan.Sign && strings.Contains(m.state, t.Text):
		return m.afterSign(t.Text)
	case m.state == "how" || m.state == ";" || m.state == ",;" || m.state == ",:" || !isNumber:
		return t.At, api.ErrWord
	}
	return m.number(t)
}

func (m *machine) goOn(state string) (int, api.Errno) {
	m.state = state
	return 0, api.OK
}

// number is where one must be, and is.
func (m *machine) number(t scan.Token) (int, api.Errno) {
	switch m.state {
	case "scope":
		return m.variable(t, "scope")
	case "variable":
		return m.variable(t, ",:")
	case "cost":
		return m.goOn(",;")
	}
	if t.N > 1000000 || t.N < -1000000 || m.state == "multiplier" && t.N == 0 {
		return t.At, api.ErrRange
	}
	switch m.state {
	case "number":
		return m.goOn(";")
	case "multiplier":
		return m.goOn("variable")
	case "row", "row;":
		return m.inRow(t)
	}
	if len(m.list) == 16 {
		return t.At, api.ErrMany
	}
	if len(m.list) > 0 && slices.Max(m.list) >= t.N {
		return t.At, api.ErrRow
	}
	m.list = append(m.list, t.N)
	return m.goOn("domain")
}

func (m *machine) begin(t scan.Token) (int, api.Errno) {
	full := false
	switch t.Text {
	case "var":
		full = len(m.domains) == 40
	case "soft":
		full = m.soft == 200
	case "table", "forbid", "diff", "equal", "rising", "linear":
		full = m.hard == 200
	default:
		return t.At, api.ErrWord
	}
	if full {
		return t.At, api.ErrMany
	}
	*m = machine{state: "scope", word: t.Text, domains: m.domains, hard: m.hard, soft: m.soft}
	switch t.Text {
	case "var":
		m.state = "domain"
		return 0, api.OK
	case "soft":
		m.soft++
		return 0, api.OK
	case "linear":
		m.state = "multiplier"
	}
	m.hard++
	return 0, api.OK
}

// afterList is where a domain or a scope ends.
func (m *machine) afterList(t scan.Token) (int, api.Errno) {
	next := map[string]string{"var;": "begin", "diff;": "begin", "equal;": "begin", "rising;": "begin", "table:": "row;", "forbid:": "row;", "soft:": "cost"}[m.word+t.Text]
	if next == "" {
		return t.At, api.ErrWord
	}
	if m.word == "var" {
		m.domains = append(m.domains, m.list)
	}
	m.state = next
	return 0, api.OK
}

func (m *machine) variable(t scan.Token, next string) (int, api.Errno) {
	if len(m.list) == 6 {
		return t.At, api.ErrMany
	}
	if t.N < 0 || t.N >= len(m.domains) || len(m.list) > 0 && slices.Max(m.list) >= t.N {
		return t.At, api.ErrScope
	}
	m.list = append(m.list, t.N)
	m.state = next
	return 0, api.OK
}

func (m *machine) inRow(t scan.Token) (int, api.Errno) {
	if !slices.Contains(m.domains[m.list[len(m.row)]], t.N) {
		return t.At, api.ErrRow
	}
	if len(m.row) == 0 {
		m.rowAt = t.At
	}
	m.row, m.state = append(m.row, t.N), "row"
	if len(m.row) < len(m.list) {
		return 0, api.OK
	}
	if m.ahead != nil && slices.Compare(m.ahead, m.row) >= 0 {
		return m.rowAt, api.ErrRow
	}
	m.ahead, m.row, m.state = m.row, nil, ",;"
	if m.word == "soft" {
		m.state = "cost"
	}
	return 0, api.OK
}

func (m *machine) afterSign(sign string) (int, api.Errno) {
	switch {
	case sign == ";":
		m.state = "begin"
	case sign == ":":
		m.state = "how"
	case m.word == "linear":
		m.state = "multiplier"
	default:
		m.state = "row"
	}
	return 0, api.OK
}

// told answers the place and the error of a text.
func told(text string) (int, api.Errno) {
	tokens, at, e := scan.All(text)
	if e != api.OK {
		return at, e
	}
	m := &machine{state: "begin"}
	for _, t := range tokens {
		if t.Kind == scan.End && m.state == "begin" {
			break
		}
		if at, e := m.step(t); e != api.OK {
			return at, e
		}
	}
	return 0, api.OK
}

// inOrder tells the statements of a text as Print would: variables, hard constraints, soft ones.
func inOrder(text string) string {
	parts := [3]string{}
	for _, s := range strings.Split(strings.Join(strings.Fields(text), " "), ";") {
		s = strings.TrimSpace(s)
		s = strings.ReplaceAll(strings.ReplaceAll(s, " :", ":"), " ,", ",")
		switch {
		case s == "":
		case strings.HasPrefix(s, "var"):
			parts[0] += s + ";\n"
		case strings.HasPrefix(s, "soft"):
			parts[2] += s + ";\n"
		default:
			parts[1] += s + ";\n"
		}
	}
	return parts[0] + parts[1] + parts[2]
}

// checkTold holds Parse against what is told anew, and answers that.
func checkTold(t *testing.T, text string) (int, api.Errno) {
	t.Helper()
	x, at, e := Parse(text)
	wantAt, want := told(text)
	if at != wantAt || e != want || e != api.OK && !isSame(x, api.Instance{}) {
		t.Fatalf("%q: %v at %d, not %v at %d", text, e, at, want, wantAt)
	}
	if e == api.OK && (!Right(x) || Print(x) != inOrder(text)) {
		t.Fatalf("%q: %v", text, x)
	}
	return at, e
}

// goDeeper tries each token behind a text, and goes on behind those that may stand there.
func goDeeper(t *testing.T, text string, alphabet []string, depth int) int {
	tried := 0
	for _, word := range alphabet {
		longer := text + " " + word
		tried++
		at, e := checkTold(t, longer)
		if e != api.OK && at < len(longer) {
			checkTold(t, longer+" x ; var")
			continue
		}
		if depth > 1 {
			tried += goDeeper(t, longer, alphabet, depth-1)
		}
	}
	return tried
}

func TestParseOfAllShortTexts(t *testing.T) {
	all := strings.Fields("var table forbid diff equal rising linear soft eq le ne x -1 0 1 2 1000000 -1000001 : , ;")
	few := strings.Fields("var linear eq 0 1 2 : , ;")
	vars := "var 0 1 ; var 1 2 ; var -1 2 ;"
	tried := 0
	for _, c := range []struct {
		text     string
		alphabet []string
		depth    int
	}{
		{"", all, 6}, {vars, all, 5}, {"var 0 1 ;", few, 9},
		{vars + " table 0 1 :", few, 11}, {vars + " forbid 0 :", few, 9}, {vars + " table 1 2 : 1 -1 ,", all, 5},
		{vars + " linear", few, 9}, {vars + " linear 2 0 ,", all, 6}, {vars + " linear -1 1 :", all, 5},
		{vars + " soft 0 :", few, 8}, {vars + " soft 0 1 : 5 , 0 1 0 ,", few, 7}, {vars + " soft 0 2 :", all, 5},
	} {
		tried += goDeeper(t, c.text, c.alphabet, c.depth)
	}
	if tried < 50000 {
		t.Error(tried)
	}
}

func TestParseOfTextsWithOneTokenChanged(t *testing.T) {
	r := rand.New(rand.NewSource(666))
	all := strings.Fields("var table forbid diff equal rising linear soft eq le ne x -1 0 1 2 3 7 1000000 -1000001 : , ;")
	for range 5000 {
		text := Print(thrown(r))
		if len(text) == 0 || len(text) > 2000 {
			continue
		}
		spaced := strings.ReplaceAll(strings.ReplaceAll(strings.ReplaceAll(text, ";", " ;"), ",", " ,"), ":", " :")
		tokens := strings.Fields(spaced)
		i := r.Intn(len(tokens))
		other := all[r.Intn(len(all))]
		checkTold(t, strings.Join(slices.Delete(slices.Clone(tokens), i, i+1), " "))
		checkTold(t, strings.Join(slices.Insert(slices.Clone(tokens), i, other), " "))
		tokens[i] = other
		checkTold(t, strings.Join(tokens, "\n"))
		checkTold(t, strings.Join(tokens[:i+1], " "))
	}
}
