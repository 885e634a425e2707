package parse

import (
	"bywash/api"
	"bywash/expr"
	"bywash/value"
)

func (p *parser) expr() expr.Expr { return p.chain(p.and, "or") }

func (p *parser) and() expr.Expr { return p.chain(p.not, "and") }

func (p *parser) not() expr.Expr {
	if p.accept("not") {
		return expr.Unary("not", nested(p, p.not))
	}
	return p.compare()
}

func (p *parser) compare() expr.Expr {
	x := p.sum()
	ops := []string{"=", "!=", "<", "<=", ">", ">="}
	if i, ok := p.which(ops); ok {
		x = binary(ops[i], x, p.sum())
	}
	return x
}

func (p *parser) sum() expr.Expr { return p.chain(p.product, "+", "-") }

func (p *parser) product() expr.Expr { return p.chain(p.minus, "*", "/", "%") }

// chain reads what a rule reads, once or more, with these operators between, of which the first one is applied first.
func (p *parser) chain(rule func() expr.Expr, ops ...string) expr.Expr {
	x := rule()
	for i, ok := p.which(ops); ok; i, ok = p.which(ops) {
		x = binary(ops[i], x, rule())
	}
	return x
}

// binary returns the operator op applied to a and b themselves: expr.Binary alone would copy all of a, again for each operator of a chain.
func binary(op string, a, b expr.Expr) expr.Expr {
	x := expr.Binary(op, expr.Expr{}, expr.Expr{})
	x.Args[0], x.Args[1] = a, b
	return x
}

func (p *parser) minus() expr.Expr {
	if !p.accept("-") {
		return p.primary()
	}
	if t := p.ahead(0); t.Kind == number && t.Int > 0 {
		return expr.Const(value.Of(-p.number()))
	}
	return expr.Unary("-", nested(p, p.minus))
}

func (p *parser) primary() expr.Expr {
	switch t := p.ahead(0); {
	case t.Kind == number:
		return expr.Const(value.Of(p.number()))
	case t.Kind == literal:
		return expr.Const(value.Text(p.literal()))
	case is(t, "("):
		return nested(p, p.enclosedExpr)
	case t.Kind == word && is(p.ahead(1), "("):
		return expr.Call(p.name(), enclosed(p, p.arguments)...)
	case p.accept("null"):
		return expr.Const(value.Null())
	case is(t, "and"), is(t, "or"), is(t, "not"):
		p.fail(api.ErrWord)
	}
	return expr.Column(p.name())
}

func (p *parser) enclosedExpr() expr.Expr { return enclosed(p, p.expr) }

func (p *parser) arguments() []expr.Expr { return list(p, p.argument) }

func (p *parser) argument() expr.Expr { return nested(p, p.expr) }
