package cypher

import (
	"satchel/api"
	"satchel/textual"
)

// readScript gives the patterns of a script.
func readScript(tokens []api.Token) (patterns []pattern, e api.Errno) {
	defer func() {
		if p := recover(); p != nil {
			wrong, given := p.(api.Errno)
			if !given { // it was not a parser that gave up
				panic(p)
			}
			e = wrong
		}
	}()
	p := &parser{rest: tokens}
	return p.script(), api.OK
}

// parser reads tokens from left to right, a method for each rule of the grammar. Where they can't be a script, it gives up.
type parser struct {
	rest []api.Token // what is not read yet
}

func giveUp() {
	panic(api.ErrSyntax)
}

// next reads any token.
func (p *parser) next() api.Token {
	if len(p.rest) == 0 {
		giveUp()
	}
	token := p.rest[0]
	p.rest = p.rest[1:]
	return token
}

// skip reads a mark, if it comes next.
func (p *parser) skip(mark string) bool {
	if len(p.rest) == 0 || p.rest[0].Kind != api.TokenMark || p.rest[0].Text != mark {
		return false
	}
	p.rest = p.rest[1:]
	return true
}

// mark reads a mark that must come next.
func (p *parser) mark(mark string) {
	if !p.skip(mark) {
		giveUp()
	}
}

func (p *parser) word() string {
	token := p.next()
	if token.Kind != api.TokenWord {
		giveUp()
	}
	return token.Text
}

func (p *parser) script() []pattern {
	var patterns []pattern
	for len(p.rest) > 0 {
		if p.word() != createWord {
			giveUp()
		}
		for more := true; more; more = p.skip(",") {
			patterns = append(patterns, p.pattern())
		}
		p.mark(";")
	}
	return patterns
}

func (p *parser) pattern() pattern {
	p.mark("(")
	word := p.word()
	if !p.skip(")") {
		return p.node(word)
	}
	if p.skip("-") {
		return p.relation(word)
	}
	return node{word: word}
}

// node reads a node behind its word.
func (p *parser) node(word string) node {
	n := node{word: word}
	for p.skip(":") {
		n.labels = append(n.labels, p.word())
	}
	n.props = p.props()
	p.mark(")")
	return n
}

// relation reads a relation behind its first node and the mark there.
func (p *parser) relation(from string) relation {
	r := relation{from: from}
	p.mark("[")
	r.word = p.word()
	p.mark(":")
	r.kind = p.word()
	r.props = p.props()
	p.mark("]")
	p.mark("->")
	p.mark("(")
	r.to = p.word()
	p.mark(")")
	return r
}

// props reads a map, if one comes next.
func (p *parser) props() []api.Prop {
	if !p.skip("{") || p.skip("}") {
		return nil
	}
	var props []api.Prop
	for more := true; more; more = p.skip(",") {
		key := p.word()
		p.mark(":")
		props = append(props, api.Prop{Key: key, Val: p.literal()})
	}
	p.mark("}")
	return props
}

func (p *parser) literal() api.Value {
	if p.skip("[") {
		return p.list()
	}
	return p.scalar()
}

func (p *parser) scalar() api.Value {
	token := p.next()
	switch token.Kind {
	case api.TokenInt:
		return api.Value{Kind: api.KindInt, Num: token.Num}
	case api.TokenFloat:
		return api.Value{Kind: api.KindFloat, Num: token.Num}
	case api.TokenText:
		return api.Value{Kind: api.KindText, Text: token.Text}
	}
	return readBool(token.Text) // which the text of a mark is not
}

func readBool(word string) api.Value {
	v := api.Value{Kind: api.KindBool}
	switch word {
	case textual.True:
		v.Num = 1
	case textual.False:
	default:
		giveUp()
	}
	return v
}

// kind reads the word of a list's kind, and gives the kind of its scalars.
func (p *parser) kind() int {
	word := p.word()
	for kind := api.KindBool; kind <= api.KindText; kind++ {
		if word == kindWords[kind] {
			return kind
		}
	}
	giveUp()
	return 0
}

// list reads a list behind its first mark.
func (p *parser) list() api.Value {
	p.mark(":")
	kind := p.kind()
	v := api.Value{Kind: kind + api.ListOf}
	if p.skip("]") {
		return v
	}
	for more := true; more; more = p.skip(",") {
		scalar := p.scalar()
		if scalar.Kind != kind {
			giveUp()
		}
		if kind == api.KindText {
			v.Texts = append(v.Texts, scalar.Text)
		} else {
			v.Nums = append(v.Nums, scalar.Num)
		}
	}
	p.mark("]")
	return v
}
