package syntax

import "callbox/api"

// parser goes through the tokens of a source, by a function for each rule of the chapter's table. No rule needs more than the token that comes to tell how it goes on, so the first one that does not fit is the one to tell of.
type parser struct {
	tokens []api.Token
	next   int  // the place of the token that comes; the last one, the end, is never taken
	bodies int  // how many are open
	full   bool // the token that comes would begin one more than there may be, if it is right there
}

func (p *parser) token() api.Token { return p.tokens[p.next] }

func (p *parser) wrong(why api.Errno) fault { return fault{why, p.token().At} }

// sees: is a word or a sign the token that comes? (No name has the text of one, and a number and the end have none.)
func (p *parser) sees(text string) bool { return p.token().Text == text }

// take goes on behind the token that comes, which is right there but for how many there may be.
func (p *parser) take() api.Token {
	if p.full {
		panic(p.wrong(api.ErrSyntaxMany))
	}
	k := p.token()
	p.next++
	return k
}

func (p *parser) want(texts ...string) {
	for _, text := range texts {
		if !p.sees(text) {
			panic(p.wrong(api.ErrSyntaxToken))
		}
		p.take()
	}
}

func (p *parser) ofKind(kind int) api.Token {
	if p.token().Kind != kind {
		panic(p.wrong(api.ErrSyntaxToken))
	}
	return p.take()
}

func (p *parser) name() api.Token { return p.ofKind(api.TokenName) }

// room is asked ahead of one more. It is never given back: what comes then is refused in any case.
func (p *parser) room(have, most int) {
	if have == most {
		p.full = true
	}
}

// some reads one thing at least, and more of them until one of the ends comes.
func (p *parser) some(one func() api.Tree, ends ...string) []api.Tree {
	var list []api.Tree
	for len(list) == 0 || !p.seesAny(ends) {
		p.room(len(list), api.MaxParts)
		list = append(list, one())
	}
	return list
}

func (p *parser) seesAny(texts []string) bool {
	for _, text := range texts {
		if p.sees(text) {
			return true
		}
	}
	return false
}

// parted reads one thing at least, with a comma ahead of each other one: that is what begins one too many.
func (p *parser) parted(one func() api.Tree, most int) []api.Tree {
	list := []api.Tree{one()}
	for p.sees(",") {
		p.room(len(list), most)
		p.take()
		list = append(list, one())
	}
	return list
}

func named(kind int, name api.Token, kids ...api.Tree) api.Tree {
	return api.Tree{Kind: kind, Name: name.Text, At: name.At, Kids: kids}
}

// alone is a node that has nothing but a kind, of the token that comes.
func (p *parser) alone(kind int) api.Tree { return api.Tree{Kind: kind, At: p.take().At} }

func (p *parser) source() api.Tree {
	t := api.Tree{Kind: api.NodeSource}
	for p.token().Kind != api.TokenEnd {
		p.room(len(t.Kids), api.MaxDefs)
		t.Kids = append(t.Kids, p.definition())
		p.want(";")
	}
	return t
}

func (p *parser) definition() api.Tree {
	switch p.token().Text {
	case "const":
		return p.constant()
	case "typedef":
		first := p.take()
		return api.Tree{Kind: api.NodeTypedef, At: first.At, Kids: []api.Tree{p.something()}}
	case "enum", "struct", "union":
		return p.body(true)
	case "program":
		return p.numbered(api.NodeProgram, p.version)
	}
	panic(p.wrong(api.ErrSyntaxToken))
}

func (p *parser) constant() api.Tree {
	p.want("const")
	name := p.name()
	p.want("=")
	return named(api.NodeConst, name, p.number())
}

// body reads members, fields or a choice, with the word ahead; with a name, if it is a definition's.
func (p *parser) body(hasName bool) api.Tree {
	if p.bodies == api.MaxInline {
		panic(p.wrong(api.ErrSyntaxDeep))
	}
	p.bodies++
	word := p.take()
	t := api.Tree{At: word.At}
	if hasName {
		name := p.name()
		t.Name, t.At = name.Text, name.At
	}
	switch word.Text {
	case "enum":
		t.Kind, t.Kids = api.NodeEnum, p.members()
	case "struct":
		t.Kind, t.Kids = api.NodeStruct, p.fields()
	default:
		t.Kind, t.Kids = api.NodeUnion, p.choice()
	}
	p.bodies--
	return t
}

func (p *parser) members() []api.Tree {
	p.want("{")
	list := p.parted(p.member, api.MaxParts)
	p.want("}")
	return list
}

func (p *parser) member() api.Tree {
	name := p.name()
	p.want("=")
	return named(api.NodeMember, name, p.value())
}

func (p *parser) fields() []api.Tree {
	p.want("{")
	list := p.some(p.field, "}")
	p.want("}")
	return list
}

func (p *parser) field() api.Tree {
	t := p.declaration()
	p.want(";")
	return t
}

func (p *parser) choice() []api.Tree {
	p.want("switch", "(")
	kids := []api.Tree{p.declaration()}
	p.want(")", "{")
	kids = append(kids, p.some(p.arm, "default", "}")...)
	if p.sees("default") {
		kids = append(kids, p.otherwise())
	}
	p.want("}")
	return kids
}

func (p *parser) arm() api.Tree {
	t := api.Tree{Kind: api.NodeCase, At: p.token().At}
	for len(t.Kids) == 0 || p.sees("case") {
		p.room(len(t.Kids), api.MaxParts)
		p.want("case")
		t.Kids = append(t.Kids, p.value())
		p.want(":")
	}
	t.Kids = append(t.Kids, p.field())
	return t
}

func (p *parser) otherwise() api.Tree {
	t := p.alone(api.NodeElse)
	p.want(":")
	t.Kids = []api.Tree{p.field()}
	return t
}
