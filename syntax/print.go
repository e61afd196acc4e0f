package syntax

import (
	"math"
	"strconv"

	"callbox/api"
	"callbox/lex"
)

// printer lays the tokens of a tree down, by a function for each rule of the chapter's table.
type printer struct {
	text   []byte
	bodies int // how many are open
}

// must gives up where a tree is not that of a source.
func must(right bool) {
	if !right {
		panic(fault{why: api.ErrSyntaxTree})
	}
}

// mustHave holds against a node what its kind has: a name or none, so many kids, no number.
func mustHave(t api.Tree, name bool, least, most int) {
	must(lex.IsName(t.Name) == name && (name || t.Name == ""))
	must(least <= len(t.Kids) && len(t.Kids) <= most && t.Number == 0)
}

// isRun: is a byte one that would go on with a name, a word or a number?
func isRun(c byte) bool {
	return c >= 'a' && c <= 'z' || c >= 'A' && c <= 'Z' || c >= '0' && c <= '9' || c == '_'
}

// lay lays tokens down. It gives up as soon as the text is too long: parts that stand in many places could make it so long that nobody would see its end.
func (p *printer) lay(tokens ...string) {
	for _, token := range tokens {
		if n := len(p.text); n > 0 && isRun(p.text[n-1]) && isRun(token[0]) {
			p.text = append(p.text, ' ')
		}
		p.text = append(p.text, token...)
		must(len(p.text) <= api.MaxSource)
	}
}

// alone lays down the word of a node that has nothing but its kind.
func (p *printer) alone(t api.Tree, word string) {
	mustHave(t, false, 0, 0)
	p.lay(word)
}

func (p *printer) source(t api.Tree) {
	must(t.Kind == api.NodeSource)
	mustHave(t, false, 0, api.MaxDefs)
	for _, kid := range t.Kids {
		p.definition(kid)
		p.lay(";")
	}
}

func (p *printer) definition(t api.Tree) {
	switch t.Kind {
	case api.NodeConst:
		mustHave(t, true, 1, 1)
		p.lay("const", t.Name, "=")
		p.number(t.Kids[0], math.MinInt32)
	case api.NodeTypedef:
		mustHave(t, false, 1, 1)
		must(t.Kids[0].Kind != api.NodeVoid)
		p.lay("typedef")
		p.declaration(t.Kids[0])
	case api.NodeProgram:
		p.numbered(t, "program", p.version)
	default:
		p.body(t, true)
	}
}

func (p *printer) body(t api.Tree, hasName bool) {
	must(p.bodies < api.MaxInline)
	p.bodies++
	switch t.Kind {
	case api.NodeEnum:
		p.head(t, "enum", hasName, 1, api.MaxParts)
		p.members(t.Kids)
	case api.NodeStruct:
		p.head(t, "struct", hasName, 1, api.MaxParts)
		p.fields(t.Kids)
	case api.NodeUnion:
		p.head(t, "union", hasName, 2, 2+api.MaxParts)
		p.choice(t.Kids)
	default:
		must(false)
	}
	p.bodies--
}

func (p *printer) head(t api.Tree, word string, hasName bool, least, most int) {
	mustHave(t, hasName, least, most)
	p.lay(word)
	if hasName {
		p.lay(t.Name)
	}
}

func (p *printer) members(kids []api.Tree) {
	p.lay("{")
	for i, kid := range kids {
		if i > 0 {
			p.lay(",")
		}
		must(kid.Kind == api.NodeMember)
		mustHave(kid, true, 1, 1)
		p.lay(kid.Name, "=")
		p.value(kid.Kids[0])
	}
	p.lay("}")
}

func (p *printer) fields(kids []api.Tree) {
	p.lay("{")
	for _, kid := range kids {
		p.field(kid)
	}
	p.lay("}")
}

func (p *printer) field(t api.Tree) {
	p.declaration(t)
	p.lay(";")
}

func (p *printer) choice(kids []api.Tree) {
	p.lay("switch", "(")
	p.declaration(kids[0])
	p.lay(")", "{")
	arms := kids[1:]
	last := arms[len(arms)-1]
	hasElse := last.Kind == api.NodeElse
	if hasElse {
		arms = arms[:len(arms)-1]
	}
	must(1 <= len(arms) && len(arms) <= api.MaxParts)
	for _, arm := range arms {
		p.arm(arm)
	}
	if hasElse {
		mustHave(last, false, 1, 1)
		p.lay("default", ":")
		p.field(last.Kids[0])
	}
	p.lay("}")
}

func (p *printer) arm(t api.Tree) {
	must(t.Kind == api.NodeCase)
	mustHave(t, false, 2, api.MaxParts+1)
	cases := len(t.Kids) - 1
	for _, kid := range t.Kids[:cases] {
		p.lay("case")
		p.value(kid)
		p.lay(":")
	}
	p.field(t.Kids[cases])
}

func (p *printer) declaration(t api.Tree) {
	switch t.Kind {
	case api.NodeVoid:
		p.alone(t, "void")
	case api.NodePlain:
		mustHave(t, true, 1, 1)
		p.written(t.Kids[0])
		p.lay(t.Name)
	case api.NodeMaybe:
		mustHave(t, true, 1, 1)
		p.written(t.Kids[0])
		p.lay("*", t.Name)
	case api.NodeFixed:
		mustHave(t, true, 2, 2)
		must(t.Kids[0].Kind != api.NodeString)
		p.sized(t, "[", "]")
	case api.NodeList:
		mustHave(t, true, 1, 2)
		p.sized(t, "<", ">")
	default:
		must(false)
	}
}

func (p *printer) sized(t api.Tree, open, shut string) {
	switch of := t.Kids[0]; of.Kind {
	case api.NodeOpaque:
		p.alone(of, "opaque")
	case api.NodeString:
		p.alone(of, "string")
	default:
		p.written(of)
	}
	p.lay(t.Name, open)
	for _, size := range t.Kids[1:] {
		p.value(size)
	}
	p.lay(shut)
}

// written lays a type down.
func (p *printer) written(t api.Tree) {
	switch t.Kind {
	case api.NodeEnum, api.NodeStruct, api.NodeUnion:
		p.body(t, false)
	default:
		p.bare(t)
	}
}

func (p *printer) bare(t api.Tree) {
	if t.Kind == api.NodeRef {
		p.reference(t)
		return
	}
	for _, b := range bares {
		if b.kind != t.Kind {
			continue
		}
		if b.unsigned {
			p.lay("unsigned")
		}
		p.alone(t, b.word)
		return
	}
	must(false)
}

func (p *printer) reference(t api.Tree) {
	mustHave(t, true, 0, 0)
	p.lay(t.Name)
}

func (p *printer) value(t api.Tree) {
	if t.Kind == api.NodeRef {
		p.reference(t)
		return
	}
	p.number(t, math.MinInt32)
}

func (p *printer) number(t api.Tree, least int) {
	must(t.Kind == api.NodeNumber && t.Name == "" && len(t.Kids) == 0)
	must(least <= t.Number && t.Number <= api.MaxWord)
	p.lay(strconv.Itoa(t.Number))
}

// numbered lays a program or a version down.
func (p *printer) numbered(t api.Tree, word string, part func(api.Tree)) {
	mustHave(t, true, 2, 1+api.MaxParts)
	p.lay(word, t.Name, "{")
	for _, kid := range t.Kids[1:] {
		part(kid)
	}
	p.lay("}", "=")
	p.number(t.Kids[0], 0)
}

func (p *printer) version(t api.Tree) {
	must(t.Kind == api.NodeVersion)
	p.numbered(t, "version", p.procedure)
	p.lay(";")
}

func (p *printer) procedure(t api.Tree) {
	must(t.Kind == api.NodeProc)
	mustHave(t, true, 3, 2+api.MaxArgs)
	p.result(t.Kids[1])
	p.lay(t.Name, "(")
	p.arguments(t.Kids[2:])
	p.lay(")", "=")
	p.number(t.Kids[0], 0)
	p.lay(";")
}

func (p *printer) result(t api.Tree) {
	if t.Kind == api.NodeVoid {
		p.alone(t, "void")
		return
	}
	p.bare(t)
}

func (p *printer) arguments(kids []api.Tree) {
	if len(kids) == 1 {
		p.result(kids[0])
		return
	}
	for i, kid := range kids {
		if i > 0 {
			p.lay(",")
		}
		p.bare(kid)
	}
}
