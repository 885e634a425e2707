package parse

import (
	"bywash/expr"
	"bywash/relop"
)

// The kinds of plans: those behind the scan are in the order of words.
const (
	scan = 1 + iota
	where
	keep
	join
	left
	group
	union
	distinct
	first
)

func (p *parser) query() relop.Plan {
	q := p.part()
	for p.accept("|") {
		q = p.step(q)
	}
	return q
}

func (p *parser) part() relop.Plan {
	if is(p.ahead(0), "(") {
		return nested(p, p.enclosedQuery)
	}
	return relop.Plan{Kind: scan, Name: p.name()}
}

func (p *parser) enclosedQuery() relop.Plan { return enclosed(p, p.query) }

// step reads what is done with the plan q.
func (p *parser) step(q relop.Plan) relop.Plan {
	s := relop.Plan{Args: []relop.Plan{q}}
	s.Kind = scan + p.oneOf("where", "keep", "join", "left", "group", "union", "distinct", "first")
	switch s.Kind {
	case where:
		s.Cond = p.expr()
	case keep:
		for _, k := range list(p, p.kept) {
			s.Exprs = append(s.Exprs, k.value)
			s.Names = append(s.Names, k.name)
		}
	case join, left:
		s.Args = append(s.Args, p.part())
		p.expect("on")
		s.On = list(p, p.pair)
	case group:
		s.Names = optional(p, p.name)
		p.expect(":")
		s.Aggs = optional(p, p.agg)
	case union:
		s.Args = append(s.Args, p.part())
	case first:
		s.Count = p.number()
		if p.accept("by") {
			s.By = list(p, p.order)
		}
	}
	return s
}

// optional reads a list of what begins with a word, or nothing if there is no word.
func optional[T any](p *parser, rule func() T) []T {
	if p.ahead(0).Kind != word {
		return nil
	}
	return list(p, rule)
}

// named is an expression that is kept, and the name of its column.
type named struct {
	value expr.Expr
	name  string
}

func (p *parser) kept() named {
	return named{value: p.expr(), name: p.as()}
}

func (p *parser) pair() relop.Pair {
	first := p.name()
	p.expect("=")
	return relop.Pair{Left: first, Right: p.name()}
}

func (p *parser) agg() relop.Agg {
	a := relop.Agg{Op: p.ahead(0).Text}
	p.oneOf("count", "sum", "min", "max")
	a.Column = enclosed(p, p.optionalName)
	a.Name = p.as()
	return a
}

// optionalName reads a name, or returns none if there is no word.
func (p *parser) optionalName() string {
	if p.ahead(0).Kind != word {
		return ""
	}
	return p.name()
}

func (p *parser) order() relop.Order {
	return relop.Order{Column: p.name(), Down: p.accept("down")}
}
