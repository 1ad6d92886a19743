package inst

import (
	"slices"

	"arborist/api"
	"arborist/scan"
)

// Parse answers the instance that a text tells, or the place of the first that is wrong, and its error (F2).
func Parse(text string) (x api.Instance, at int, err api.Errno) {
	tokens, at, err := scan.All(text)
	if err != api.OK {
		return api.Instance{}, at, err
	}
	defer func() {
		switch f := recover().(type) {
		case nil:
		case fault:
			x, at, err = api.Instance{}, f.at, f.err
		default:
			// None that a text can bring about.
			panic(f)
		}
	}()
	r := &reader{tokens: tokens}
	for r.tokens[0].Kind != scan.End {
		r.statement()
	}
	return r.x, 0, api.OK
}

// fault is what is thrown where a text is wrong.
type fault struct {
	at  int
	err api.Errno
}

// need throws a fault of this token, unless what is needed holds.
func need(holds bool, t scan.Token, err api.Errno) {
	if !holds {
		panic(fault{at: t.At, err: err})
	}
}

// reader has the tokens that are still to be read, and what those ahead of them tell.
type reader struct {
	tokens []scan.Token
	x      api.Instance
}

// take never goes past the end, as nobody takes that without a fault.
func (r *reader) take() scan.Token {
	t := r.tokens[0]
	r.tokens = r.tokens[1:]
	return t
}

func (r *reader) statement() {
	t := r.take()
	switch word := wordOf(t, varWord, softWord); word {
	case varWord:
		need(len(r.x.Domains) < api.MaxVars, t, api.ErrMany)
		r.x.Domains = append(r.x.Domains, r.domain())
	case softWord:
		need(len(r.x.Soft) < api.MaxCons, t, api.ErrMany)
		r.x.Soft = append(r.x.Soft, r.soft())
	default:
		need(len(r.x.Hard) < api.MaxCons, t, api.ErrMany)
		r.x.Hard = append(r.x.Hard, r.hard(word))
	}
}

// wordOf answers which of the words from the first to the last a token is.
func wordOf(t scan.Token, first, last int) int {
	for word := first; word <= last; word++ {
		if t.Kind == scan.Word && t.Text == words[word] {
			return word
		}
	}
	panic(fault{at: t.At, err: api.ErrWord})
}

func (r *reader) domain() []int {
	d := []int{}
	for len(d) == 0 || r.tokens[0].Kind == scan.Number {
		t := r.value()
		need(len(d) < api.MaxDomain, t, api.ErrMany)
		need(isAbove(t.N, d), t, api.ErrRow)
		d = append(d, t.N)
	}
	r.sign(";")
	return d
}

func isAbove(n int, ahead []int) bool {
	return len(ahead) == 0 || ahead[len(ahead)-1] < n
}

func (r *reader) hard(kind int) api.Constraint {
	if kind == api.Linear {
		return r.linear()
	}
	c := api.Constraint{Kind: kind, Scope: r.scope()}
	if !hasRows(kind) {
		r.sign(";")
		return c
	}
	r.sign(":")
	c.Rows = r.rows(c.Scope)
	return c
}

func (r *reader) linear() api.Constraint {
	c := api.Constraint{Kind: api.Linear}
	for more := true; more; more = r.sign(",", ":") == "," {
		t := r.value()
		need(t.N != 0, t, api.ErrRange)
		c.Args = append(c.Args, t.N)
		c.Scope = append(c.Scope, r.variable(c.Scope))
	}
	how := wordOf(r.take(), howWord+api.Eq, howWord+api.Ne) - howWord
	c.Args = append(c.Args, how, r.value().N)
	r.sign(";")
	return c
}

func (r *reader) soft() api.Soft {
	s := api.Soft{Scope: r.scope()}
	r.sign(":")
	s.Default = int64(r.number().N)
	for r.sign(",", ";") == "," {
		s.Rows = append(s.Rows, r.row(s.Scope, s.Rows))
		s.Costs = append(s.Costs, int64(r.number().N))
	}
	return s
}

func (r *reader) scope() []int {
	scope := []int{}
	for len(scope) == 0 || r.tokens[0].Kind == scan.Number {
		scope = append(scope, r.variable(scope))
	}
	return scope
}

// variable takes one that may stand in a scope behind those ahead of it.
func (r *reader) variable(ahead []int) int {
	t := r.number()
	need(len(ahead) < api.MaxArity, t, api.ErrMany)
	need(isVariable(r.x.Domains, t.N) && isAbove(t.N, ahead), t, api.ErrScope)
	return t.N
}

// rows takes those of a table, and what ends it.
func (r *reader) rows(scope []int) [][]int {
	rows := [][]int{}
	if r.tokens[0].Kind != scan.Number {
		r.sign(";")
		return rows
	}
	for more := true; more; more = r.sign(",", ";") == "," {
		rows = append(rows, r.row(scope, rows))
	}
	return rows
}

// row takes one that may stand behind those ahead of it.
func (r *reader) row(scope []int, ahead [][]int) []int {
	first := r.tokens[0]
	row := make([]int, 0, len(scope))
	for _, v := range scope {
		t := r.value()
		need(slices.Contains(r.x.Domains[v], t.N), t, api.ErrRow)
		row = append(row, t.N)
	}
	need(goesOn(ahead, row), first, api.ErrRow)
	return row
}

func (r *reader) number() scan.Token {
	t := r.take()
	need(t.Kind == scan.Number, t, api.ErrWord)
	return t
}

// value takes a number that is neither a variable nor a cost.
func (r *reader) value() scan.Token {
	t := r.number()
	need(isValue(t.N), t, api.ErrRange)
	return t
}

// sign takes one of those that may be there, and answers which.
func (r *reader) sign(may ...string) string {
	t := r.take()
	need(t.Kind == scan.Sign && slices.Contains(may, t.Text), t, api.ErrWord)
	return t.Text
}
