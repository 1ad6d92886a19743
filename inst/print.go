package inst

import (
	"strconv"
	"strings"

	"arborist/api"
)

// Print tells a right instance as a text, one statement a line; and nothing of one that is not right (F2).
func Print(x api.Instance) string {
	if !Right(x) {
		return ""
	}
	p := &printer{}
	for _, d := range x.Domains {
		p.begin(varWord, d)
		p.end()
	}
	for _, c := range x.Hard {
		p.hard(c)
	}
	for _, s := range x.Soft {
		p.soft(s)
	}
	return p.String()
}

// printer is a text that statements are written behind.
type printer struct {
	strings.Builder
}

func (p *printer) numbers(l ...int) {
	for _, n := range l {
		p.WriteByte(' ')
		p.WriteString(strconv.Itoa(n))
	}
}

func (p *printer) begin(word int, l []int) {
	p.WriteString(words[word])
	p.numbers(l...)
}

func (p *printer) end() { p.WriteString(";\n") }

func (p *printer) hard(c api.Constraint) {
	switch {
	case c.Kind == api.Linear:
		p.linear(c)
	case hasRows(c.Kind):
		p.begin(c.Kind, c.Scope)
		p.rows(c.Rows)
	default:
		p.begin(c.Kind, c.Scope)
	}
	p.end()
}

func (p *printer) rows(rows [][]int) {
	p.WriteByte(':')
	for i, row := range rows {
		if i > 0 {
			p.WriteByte(',')
		}
		p.numbers(row...)
	}
}

func (p *printer) linear(c api.Constraint) {
	p.WriteString(words[api.Linear])
	for i, v := range c.Scope {
		if i > 0 {
			p.WriteByte(',')
		}
		p.numbers(c.Args[i], v)
	}
	n := len(c.Scope)
	p.WriteString(": ")
	p.WriteString(words[howWord+c.Args[n]])
	p.numbers(c.Args[n+1])
}

func (p *printer) soft(s api.Soft) {
	p.begin(softWord, s.Scope)
	p.WriteByte(':')
	p.numbers(int(s.Default))
	for i, row := range s.Rows {
		p.WriteByte(',')
		p.numbers(row...)
		p.numbers(int(s.Costs[i]))
	}
	p.end()
}
