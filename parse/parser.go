package parse

import (
	"slices"

	"bywash/api"
	"bywash/lex"
)

// The kinds of tokens.
const (
	word = 1 + iota
	number
	literal
	sign
)

// parser reads tokens, by a method for each rule of the grammar. Each method begins at the next token and ends behind the last one that it allows.
type parser struct {
	tokens []lex.Token // those that are not read yet
	end    int         // the number of bytes of the text
	depth  int         // that of what is being read
	at     int         // the offset of the error
	e      api.Errno   // the first error
}

// fail keeps the first error, which is at the next token. Nothing is left to be read then, so that every rule ends soon and no other one fails instead.
func (p *parser) fail(e api.Errno) {
	if p.e != api.OK {
		return
	}
	p.e, p.at = e, p.end
	if len(p.tokens) > 0 {
		p.at = p.tokens[0].At
	}
	p.tokens = nil
}

// ahead returns the token with this index among those that are not read yet, which has no kind if there are fewer.
func (p *parser) ahead(i int) lex.Token {
	if i >= len(p.tokens) {
		return lex.Token{}
	}
	return p.tokens[i]
}

// is reports whether a token is this word or sign.
func is(t lex.Token, text string) bool {
	return (t.Kind == word || t.Kind == sign) && t.Text == text
}

// take reads the next token, which the grammar allows. It is the first one of what is too deep if that contains it.
func (p *parser) take() lex.Token {
	if p.depth > api.MaxDepth {
		p.fail(api.ErrDeep)
	}
	t := p.ahead(0)
	if t.Kind != 0 {
		p.tokens = p.tokens[1:]
	}
	return t
}

// accept reads the next token if it is this word or sign, and reports whether it is.
func (p *parser) accept(text string) bool {
	ok := is(p.ahead(0), text)
	if ok {
		p.take()
	}
	return ok
}

// expect reads the next token, which must be this word or sign.
func (p *parser) expect(text string) {
	if !p.accept(text) {
		p.fail(api.ErrWord)
	}
}

// which reads the next token if it is one of these words and signs, and returns its index among them, and whether it is.
func (p *parser) which(texts []string) (int, bool) {
	i := slices.IndexFunc(texts, p.accept)
	return i, i >= 0
}

// oneOf reads the next token, which must be one of these words, and returns its number, from 1 on.
func (p *parser) oneOf(words ...string) int {
	i, ok := p.which(words)
	if !ok {
		p.fail(api.ErrWord)
	}
	return i + 1
}

// token reads the next token, which must be of this kind.
func (p *parser) token(kind int) lex.Token {
	if p.ahead(0).Kind != kind {
		p.fail(api.ErrWord)
	}
	return p.take()
}

func (p *parser) name() string { return p.token(word).Text }

func (p *parser) number() int { return p.token(number).Int }

func (p *parser) literal() string { return p.token(literal).Text }

// list reads what a rule reads, once or more, with commas between.
func list[T any](p *parser, rule func() T) []T {
	l := []T{rule()}
	for p.accept(",") {
		l = append(l, rule())
	}
	return l
}

// nested reads what a rule reads, which is deeper by 1 than what contains it.
func nested[T any](p *parser, rule func() T) T {
	p.depth++
	x := rule()
	p.depth--
	return x
}

// enclosed reads what a rule reads, in parentheses.
func enclosed[T any](p *parser, rule func() T) T {
	p.expect("(")
	x := rule()
	p.expect(")")
	return x
}
