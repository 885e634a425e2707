package parse

import (
	"bywash/schema"
	"bywash/scheme"
	"bywash/window"
)

// The mappings that have a number.
const (
	last  = 2
	shift = 3
)

// text reads definitions up to the end.
func (p *parser) text() []Def {
	var l []Def
	for len(p.tokens) > 0 {
		l = append(l, p.definition())
		p.expect(";")
	}
	return l
}

// definition reads a definition up to its semicolon.
func (p *parser) definition() Def {
	d := Def{Kind: p.oneOf("source", "asset", "schedule"), Name: p.name()}
	switch d.Kind {
	case source:
		d.Schema = enclosed(p, p.columns)
		d.Scheme = p.scheme()
	case asset:
		d.Scheme = p.scheme()
		p.expect("from")
		d.Inputs = list(p, p.input)
		p.expect("do")
		d.Plan = p.query()
	case schedule:
		d.Cron = p.literal()
		p.expect("makes")
		d.Makes = list(p, p.name)
	}
	return d
}

func (p *parser) columns() schema.Schema { return list(p, p.column) }

func (p *parser) column() schema.Column {
	return schema.Column{Name: p.name(), Type: p.oneOf("int", "text")}
}

func (p *parser) scheme() scheme.Scheme {
	kind := p.oneOf("hourly", "daily", "weekly", "monthly", "static")
	first := p.number()
	p.expect("..")
	return scheme.Scheme{Kind: kind, First: first, Last: p.number()}
}

func (p *parser) input() Input {
	i := Input{Asset: p.name(), Map: p.mapping()}
	i.As = p.as()
	return i
}

// as reads the name that something is given.
func (p *parser) as() string {
	p.expect("as")
	return p.name()
}

func (p *parser) mapping() window.Mapping {
	m := window.Mapping{Kind: p.oneOf("same", "last", "shift", "within", "all")}
	switch m.Kind {
	case last:
		m.N = p.number()
	case shift:
		m.N = p.distance()
	}
	return m
}

// distance reads a number that may have a minus sign.
func (p *parser) distance() int {
	if p.accept("-") {
		return -p.number()
	}
	return p.number()
}
