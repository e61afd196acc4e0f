package syntax

import "callbox/api"

func (p *parser) declaration() api.Tree {
	if p.sees("void") {
		return p.alone(api.NodeVoid)
	}
	return p.something()
}

// something reads a declaration that is not void.
func (p *parser) something() api.Tree {
	switch p.token().Text {
	case "opaque":
		return p.sized(p.alone(api.NodeOpaque))
	case "string":
		return p.sized(p.alone(api.NodeString))
	}
	of := p.written()
	if p.sees("*") {
		p.take()
		return named(api.NodeMaybe, p.name(), of)
	}
	return p.sized(of)
}

// sized reads the rest of a declaration, from its name on.
func (p *parser) sized(of api.Tree) api.Tree {
	name := p.name()
	switch {
	case p.sees("[") && of.Kind != api.NodeString:
		p.take()
		size := p.value()
		p.want("]")
		return named(api.NodeFixed, name, of, size)
	case p.sees("<"):
		return p.list(name, of)
	case of.Kind == api.NodeOpaque || of.Kind == api.NodeString:
		panic(p.wrong(api.ErrSyntaxToken))
	}
	return named(api.NodePlain, name, of)
}

func (p *parser) list(name api.Token, of api.Tree) api.Tree {
	t := named(api.NodeList, name, of)
	p.want("<")
	if !p.sees(">") {
		t.Kids = append(t.Kids, p.value())
	}
	p.want(">")
	return t
}

// written reads a type.
func (p *parser) written() api.Tree {
	switch p.token().Text {
	case "enum", "struct", "union":
		return p.body(false)
	}
	return p.bare()
}

func (p *parser) bare() api.Tree {
	first := p.token()
	if first.Kind == api.TokenName {
		return p.reference()
	}
	unsigned := p.sees("unsigned")
	if unsigned {
		p.take()
	}
	for _, b := range bares {
		if b.unsigned == unsigned && p.sees(b.word) {
			p.take()
			return api.Tree{Kind: b.kind, At: first.At}
		}
	}
	panic(p.wrong(api.ErrSyntaxToken))
}

func (p *parser) reference() api.Tree { return named(api.NodeRef, p.name()) }

func (p *parser) value() api.Tree {
	if p.token().Kind == api.TokenName {
		return p.reference()
	}
	return p.number()
}

func (p *parser) number() api.Tree {
	k := p.ofKind(api.TokenNumber)
	return api.Tree{Kind: api.NodeNumber, Number: k.Number, At: k.At}
}

// natural reads a number that is not below 0.
func (p *parser) natural() api.Tree {
	if p.token().Number < 0 {
		panic(p.wrong(api.ErrSyntaxToken))
	}
	return p.number()
}

// numbered reads a program or a version, whose word comes.
func (p *parser) numbered(kind int, part func() api.Tree) api.Tree {
	p.take()
	name := p.name()
	p.want("{")
	parts := p.some(part, "}")
	p.want("}", "=")
	t := named(kind, name, p.natural())
	t.Kids = append(t.Kids, parts...)
	return t
}

func (p *parser) version() api.Tree {
	if !p.sees("version") {
		panic(p.wrong(api.ErrSyntaxToken))
	}
	t := p.numbered(api.NodeVersion, p.procedure)
	p.want(";")
	return t
}

func (p *parser) procedure() api.Tree {
	result := p.result()
	name := p.name()
	p.want("(")
	arguments := p.arguments()
	p.want(")", "=")
	t := named(api.NodeProc, name, p.natural(), result)
	t.Kids = append(t.Kids, arguments...)
	p.want(";")
	return t
}

func (p *parser) result() api.Tree {
	if p.sees("void") {
		return p.alone(api.NodeVoid)
	}
	return p.bare()
}

func (p *parser) arguments() []api.Tree {
	if p.sees("void") {
		return []api.Tree{p.alone(api.NodeVoid)}
	}
	return p.parted(p.bare, api.MaxArgs)
}
