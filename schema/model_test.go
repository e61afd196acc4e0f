package schema_test

import (
	"slices"

	"callbox/api"
	"callbox/lex"
	"callbox/syntax"
)

// What follows is the chapter once more, said in another way: names are a list that is searched from the front, least values are laid down byte by byte, what is wrong is thrown, and Right tells which of its clauses are broken.

// tooGreat is thrown where a least value passes its bounds.
type tooGreat struct{}

// layer lays a least value down, and counts.
type layer struct {
	types []api.Type
	bytes int
}

func (l *layer) lay(n int) {
	if l.bytes += n; l.bytes > 1000 {
		panic(tooGreat{})
	}
}

func (l *layer) value(place, depth int) {
	if depth > 64 {
		panic(tooGreat{})
	}
	t := l.types[place]
	switch t.Kind {
	case api.Void:
	case api.Int, api.Uint, api.Float, api.Bool, api.Enum:
		l.lay(4)
	case api.Hyper, api.Uhyper, api.Double:
		l.lay(8)
	case api.Fixed:
		for i := 0; i < t.Size; i += 4 {
			l.lay(4)
		}
	case api.Opaque, api.String, api.List, api.Maybe:
		l.lay(4)
	case api.Array:
		for range t.Size {
			l.value(t.Of, depth+1)
		}
	case api.Struct:
		for _, f := range t.Fields {
			l.value(f.Type, depth+1)
		}
	case api.Union:
		l.value(t.Of, depth)
		for _, a := range t.Arms {
			if len(a.Cases) > 0 {
				l.value(a.Type, depth+1)
				break
			}
		}
	}
}

// modelFits: has the least value at most 1000 bytes, and a depth of at most 64?
func modelFits(types []api.Type, place int) (fits bool) {
	defer func() {
		if r := recover(); r != nil {
			_ = r.(tooGreat)
			fits = false
		}
	}()
	l := layer{types: types}
	l.value(place, 1)
	return true
}

// told is thrown where a tree is wrong.
type told struct {
	why api.Errno
	at  int
}

func refuse(wrong bool, why api.Errno, node api.Tree) {
	if wrong {
		panic(told{why, node.At})
	}
}

// entry is a name that was taken.
type entry struct {
	api.Named
	program bool
}

type model struct {
	types    []api.Type
	writers  []api.Tree
	entries  []entry
	programs []api.Program
}

// modelResolve is C2.
func modelResolve(t api.Tree) (x api.Schema, e api.Errno, at int) {
	if _, e := syntax.Print(t); e != api.OK {
		return api.Schema{}, api.ErrSyntaxTree, 0
	}
	defer func() {
		if r := recover(); r != nil {
			wrong := r.(told)
			x, e, at = api.Schema{}, wrong.why, wrong.at
		}
	}()
	m := &model{types: always(), writers: make([]api.Tree, 8)}
	m.entries = []entry{{Named: constant("TRUE", 1)}, {Named: constant("FALSE", 0)}}
	for _, kid := range t.Kids {
		m.definition(kid)
	}
	x = api.Schema{Types: m.types, Programs: m.programs}
	for _, n := range m.entries[2:] {
		if !n.program {
			x.Names = append(x.Names, n.Named)
		}
	}
	return x, api.OK, 0
}

func (m *model) find(name string) (entry, bool) {
	for _, n := range m.entries {
		if n.Name == name {
			return n, true
		}
	}
	return entry{}, false
}

func (m *model) stands(name string) bool {
	_, stands := m.find(name)
	return stands
}

func (m *model) take(n entry, node api.Tree) {
	refuse(m.stands(n.Name), api.ErrSchemaTwice, node)
	m.entries = append(m.entries, n)
}

func (m *model) value(node api.Tree) int {
	if node.Kind == api.NodeNumber {
		return node.Number
	}
	n, stands := m.find(node.Name)
	refuse(!stands, api.ErrSchemaNone, node)
	refuse(!n.Const, api.ErrSchemaKind, node)
	return n.Value
}

func (m *model) newType(t api.Type, node api.Tree) int {
	refuse(len(m.types) >= 400, api.ErrSchemaMany, node)
	m.types = append(m.types, t)
	m.writers = append(m.writers, node)
	return len(m.types) - 1
}

func (m *model) definition(node api.Tree) {
	first := len(m.types)
	switch node.Kind {
	case api.NodeConst:
		m.take(entry{Named: constant(node.Name, node.Kids[0].Number)}, node)
	case api.NodeTypedef:
		d := node.Kids[0]
		place := m.declaration(d, nil, func() bool { return m.stands(d.Name) })
		m.check(first)
		m.take(entry{Named: typed(d.Name, place)}, d)
	case api.NodeProgram:
		m.program(node)
	default:
		m.take(entry{Named: typed(node.Name, first)}, node)
		m.newType(api.Type{Kind: -1}, node)
		m.types[first] = m.body(node, []api.Tree{node})
		m.check(first + 1)
		if !modelFits(m.types, first) {
			panic(told{api.ErrSchemaRange, node.At})
		}
	}
}

// check looks at the types from a place on.
func (m *model) check(from int) {
	for place := range m.types {
		if place >= from && !modelFits(m.types, place) {
			panic(told{api.ErrSchemaRange, m.writers[place].At})
		}
	}
}

// typeOf is the place of a type; around are the nodes that stand around it, from its definition on.
func (m *model) typeOf(node api.Tree, around []api.Tree) int {
	switch node.Kind {
	case api.NodeInt:
		return 1
	case api.NodeUint:
		return 2
	case api.NodeHyper:
		return 3
	case api.NodeUhyper:
		return 4
	case api.NodeFloat:
		return 5
	case api.NodeDouble:
		return 6
	case api.NodeBool:
		return 7
	case api.NodeRef:
		n, stands := m.find(node.Name)
		refuse(!stands, api.ErrSchemaNone, node)
		refuse(n.Const || n.program, api.ErrSchemaKind, node)
		if len(around) > 0 && around[0].Name == node.Name {
			loose := slices.ContainsFunc(around, func(t api.Tree) bool { return t.Kind == api.NodeMaybe || t.Kind == api.NodeList })
			refuse(!loose, api.ErrSchemaLoop, node)
		}
		return n.Value
	}
	body := m.body(node, append(around[:len(around):len(around)], node))
	return m.newType(body, node)
}

func (m *model) declaration(node api.Tree, around []api.Tree, twice func() bool) int {
	around = append(around[:len(around):len(around)], node)
	if len(around) == 1 {
		around = nil // that of a typedef, within which nobody can name what it defines
	}
	kid := node.Kids[0]
	of := 0
	if kid.Kind != api.NodeOpaque && kid.Kind != api.NodeString {
		of = m.typeOf(kid, around)
	}
	refuse(twice(), api.ErrSchemaTwice, node)
	size := 1<<32 - 1
	if len(node.Kids) > 1 {
		size = m.value(node.Kids[1])
	}
	switch {
	case node.Kind == api.NodePlain:
		return of
	case node.Kind == api.NodeMaybe:
		return m.newType(sized(api.Maybe, 0, of), node)
	case node.Kind == api.NodeFixed:
		refuse(size < 1 || size > 1000, api.ErrSchemaRange, node.Kids[1])
		if kid.Kind == api.NodeOpaque {
			return m.newType(sized(api.Fixed, size, 0), node)
		}
		return m.newType(sized(api.Array, size, of), node)
	case size < 0:
		panic(told{api.ErrSchemaRange, node.Kids[1].At})
	case kid.Kind == api.NodeOpaque:
		return m.newType(sized(api.Opaque, size, 0), node)
	case kid.Kind == api.NodeString:
		return m.newType(sized(api.String, size, 0), node)
	}
	return m.newType(sized(api.List, size, of), node)
}

func (m *model) body(node api.Tree, around []api.Tree) api.Type {
	switch node.Kind {
	case api.NodeEnum:
		return m.enum(node)
	case api.NodeStruct:
		return m.structure(node, around)
	}
	return m.union(node, around)
}

func (m *model) enum(node api.Tree) api.Type {
	t := api.Type{Kind: api.Enum}
	for _, kid := range node.Kids {
		refuse(m.stands(kid.Name), api.ErrSchemaTwice, kid)
		n := m.value(kid.Kids[0])
		refuse(n < -1<<31 || n > 1<<31-1, api.ErrSchemaRange, kid.Kids[0])
		for _, o := range t.Members {
			refuse(o.Number == n, api.ErrSchemaCase, kid.Kids[0])
		}
		m.take(entry{Named: constant(kid.Name, n)}, kid)
		t.Members = append(t.Members, api.Member{Name: kid.Name, Number: n})
	}
	return t
}

func (m *model) structure(node api.Tree, around []api.Tree) api.Type {
	t := api.Type{Kind: api.Struct}
	names := map[string]bool{}
	for _, kid := range node.Kids {
		refuse(kid.Kind == api.NodeVoid, api.ErrSchemaVoid, kid)
		place := m.declaration(kid, around, func() bool { return names[kid.Name] })
		names[kid.Name] = true
		t.Fields = append(t.Fields, api.Field{Name: kid.Name, Type: place})
	}
	return t
}

func (m *model) union(node api.Tree, around []api.Tree) api.Type {
	head := node.Kids[0]
	refuse(head.Kind != api.NodePlain, api.ErrSchemaKind, head)
	t := api.Type{Kind: api.Union, Else: -1, Of: m.typeOf(head.Kids[0], append(around[:len(around):len(around)], head))}
	refuse(!slices.Contains([]int{api.Int, api.Uint, api.Bool, api.Enum}, m.types[t.Of].Kind), api.ErrSchemaKind, head.Kids[0])
	names := map[string]bool{head.Name: true}
	cases := map[int]bool{}
	for i, kid := range node.Kids[1:] {
		arm := api.Arm{}
		for _, v := range kid.Kids[:len(kid.Kids)-1] {
			n := m.value(v)
			refuse(!modelNumber(m.types[t.Of], n) || cases[n], api.ErrSchemaCase, v)
			cases[n] = true
			arm.Cases = append(arm.Cases, n)
		}
		if d := kid.Kids[len(kid.Kids)-1]; d.Kind != api.NodeVoid {
			arm.Name = d.Name
			arm.Type = m.declaration(d, around, func() bool { return names[d.Name] })
			names[d.Name] = true
		}
		if kid.Kind == api.NodeElse {
			t.Else = i
		}
		t.Arms = append(t.Arms, arm)
	}
	return t
}

// modelNumber: is n a number of a type?
func modelNumber(t api.Type, n int) bool {
	switch t.Kind {
	case api.Int:
		return n == int(int32(n))
	case api.Uint:
		return n == int(uint32(n))
	case api.Bool:
		return n&^1 == 0
	case api.Enum:
		for _, m := range t.Members {
			if m.Number == n {
				return true
			}
		}
	}
	return false
}

func (m *model) program(node api.Tree) {
	m.take(entry{Named: typed(node.Name, 0), program: true}, node)
	p := api.Program{Name: node.Name, Number: node.Kids[0].Number}
	for _, kid := range node.Kids[1:] {
		p.Versions = append(p.Versions, m.version(kid, p.Versions))
	}
	for _, o := range m.programs {
		refuse(o.Number == p.Number, api.ErrSchemaNumber, node.Kids[0])
	}
	m.programs = append(m.programs, p)
}

func (m *model) version(node api.Tree, ahead []api.Version) api.Version {
	v := api.Version{Name: node.Name, Number: node.Kids[0].Number}
	for _, o := range ahead {
		refuse(o.Name == v.Name, api.ErrSchemaTwice, node)
	}
	for _, kid := range node.Kids[1:] {
		p := api.Proc{Name: kid.Name, Number: kid.Kids[0].Number}
		if kid.Kids[1].Kind != api.NodeVoid {
			p.Result = m.typeOf(kid.Kids[1], nil)
		}
		for _, o := range v.Procs {
			refuse(o.Name == p.Name, api.ErrSchemaTwice, kid)
		}
		for _, a := range kid.Kids[2:] {
			if a.Kind != api.NodeVoid {
				p.Args = append(p.Args, m.typeOf(a, nil))
			}
		}
		for _, o := range v.Procs {
			refuse(o.Number == p.Number, api.ErrSchemaNumber, kid.Kids[0])
		}
		refuse(p.Number == 0 && (len(p.Args) > 0 || p.Result != 0), api.ErrSchemaVoid, kid)
		v.Procs = append(v.Procs, p)
	}
	for _, o := range ahead {
		refuse(o.Number == v.Number, api.ErrSchemaNumber, node.Kids[0])
	}
	return v
}

// clauses are those of C3, by a word each.
type clauses map[string]bool

func (c clauses) want(right bool, clause string) {
	if !right {
		c[clause] = true
	}
}

// broken are the clauses of C3 that a schema breaks.
func broken(x api.Schema) clauses {
	c := clauses{}
	place := func(n, from int) bool { return n >= from && n < len(x.Types) }
	c.want(len(x.Types) >= 8 && len(x.Types) <= 400, "how many types")
	for i, t := range x.Types {
		if i < 8 {
			c.want(t.Kind == i && t.Size == 0 && t.Of == 0 && t.Else == 0 && len(t.Members)+len(t.Fields)+len(t.Arms) == 0, "the first types")
			continue
		}
		c.want(t.Kind >= 8 && t.Kind <= 16, "kinds")
		brokenZero(c, t)
		if slices.Contains([]int{api.Array, api.List, api.Maybe, api.Union}, t.Kind) {
			c.want(place(t.Of, 1), "Of is a place")
		}
		for _, f := range t.Fields {
			c.want(place(f.Type, 1), "a field's place")
		}
		for _, a := range t.Arms {
			c.want(place(a.Type, 0), "an arm's place")
		}
		brokenType(c, x, t)
	}
	brokenNames(c, x)
	brokenPrograms(c, x)
	if !c["how many types"] && !c["the first types"] && !c["kinds"] && !c["Of is a place"] && !c["a field's place"] && !c["an arm's place"] && !c["zero"] && !c["sizes"] {
		for i := range x.Types {
			if comesBack(x.Types, i, i, map[int]bool{}) {
				c["within itself"] = true
			}
		}
		for i := range x.Types {
			c.want(c["within itself"] || modelFits(x.Types, i), "least values")
		}
	}
	return c
}

func brokenZero(c clauses, t api.Type) {
	has := func(kinds ...int) bool { return slices.Contains(kinds, t.Kind) }
	c.want(t.Size == 0 || has(api.Fixed, api.Opaque, api.String, api.Array, api.List), "zero")
	c.want(t.Of == 0 || has(api.Array, api.List, api.Maybe, api.Union), "zero")
	c.want(len(t.Members) == 0 || has(api.Enum), "zero")
	c.want(len(t.Fields) == 0 || has(api.Struct), "zero")
	c.want(len(t.Arms) == 0 || has(api.Union), "zero")
	c.want(t.Else == 0 || has(api.Union), "zero")
}

func twice[T comparable](list []T) bool {
	for i := range list {
		for k := range i {
			if list[i] == list[k] {
				return true
			}
		}
	}
	return false
}

func brokenType(c clauses, x api.Schema, t api.Type) {
	switch t.Kind {
	case api.Enum:
		c.want(len(t.Members) >= 1 && len(t.Members) <= 64, "how many members")
		var numbers []int
		for _, m := range t.Members {
			numbers = append(numbers, m.Number)
			c.want(lex.IsName(m.Name), "members' names")
			c.want(m.Number >= -1<<31 && m.Number <= 1<<31-1, "members' numbers")
			c.want(slices.Contains(x.Names, constant(m.Name, m.Number)), "members stand")
		}
		c.want(!twice(numbers), "members unlike")
	case api.Fixed, api.Array:
		c.want(t.Size >= 1 && t.Size <= 1000, "sizes")
	case api.Opaque, api.String, api.List:
		c.want(t.Size >= 0 && t.Size <= 1<<32-1, "sizes")
	case api.Struct:
		c.want(len(t.Fields) >= 1 && len(t.Fields) <= 64, "how many fields")
		var names []string
		for _, f := range t.Fields {
			names = append(names, f.Name)
			c.want(lex.IsName(f.Name), "fields' names")
		}
		c.want(!twice(names), "fields unlike")
	case api.Union:
		brokenUnion(c, x, t)
	}
}

func brokenUnion(c clauses, x api.Schema, t api.Type) {
	var of api.Type
	if t.Of > 0 && t.Of < len(x.Types) {
		of = x.Types[t.Of]
		c.want(slices.Contains([]int{api.Int, api.Uint, api.Bool, api.Enum}, of.Kind), "discriminants")
	}
	with := 0
	for with < len(t.Arms) && len(t.Arms[with].Cases) > 0 {
		with++
	}
	c.want(with >= 1 && with <= 64, "how many arms")
	if t.Else == -1 {
		c.want(len(t.Arms) == with, "else")
	} else {
		c.want(len(t.Arms) == with+1 && t.Else == with, "else")
	}
	var names []string
	var cases []int
	for _, a := range t.Arms {
		c.want(len(a.Cases) <= 64, "how many cases")
		cases = append(cases, a.Cases...)
		c.want((a.Name == "") == (a.Type == 0), "arms without names")
		if a.Name != "" {
			names = append(names, a.Name)
			c.want(lex.IsName(a.Name), "arms' names")
		}
	}
	c.want(!twice(names), "arms unlike")
	c.want(!twice(cases), "cases unlike")
	if !c["discriminants"] && !c["Of is a place"] {
		for _, n := range cases {
			c.want(modelNumber(of, n), "cases are numbers")
		}
	}
}

// comesBack: does one come to a place again, going on from another one?
func comesBack(types []api.Type, to, from int, been map[int]bool) bool {
	t := types[from]
	var next []int
	switch t.Kind {
	case api.Array, api.Union:
		next = append(next, t.Of)
	}
	for _, f := range t.Fields {
		next = append(next, f.Type)
	}
	for _, a := range t.Arms {
		next = append(next, a.Type)
	}
	for _, n := range next {
		if n == to {
			return true
		}
		if !been[n] {
			been[n] = true
			if comesBack(types, to, n, been) {
				return true
			}
		}
	}
	return false
}

func brokenNames(c clauses, x api.Schema) {
	var names []string
	for _, n := range x.Names {
		names = append(names, n.Name)
		c.want(lex.IsName(n.Name), "names' names")
		c.want(n.Name != "TRUE" && n.Name != "FALSE", "TRUE and FALSE")
		if n.Const {
			c.want(n.Value >= -1<<31 && n.Value <= 1<<32-1, "constants")
		} else {
			c.want(n.Value >= 1 && n.Value < len(x.Types), "names' places")
		}
	}
	c.want(!twice(names), "names unlike")
}

func brokenPrograms(c clauses, x api.Schema) {
	word := func(n int) bool { return n >= 0 && n <= 1<<32-1 }
	var names []string
	var numbers []int
	for _, p := range x.Programs {
		names, numbers = append(names, p.Name), append(numbers, p.Number)
		c.want(lex.IsName(p.Name), "programs' names")
		c.want(p.Name != "TRUE" && p.Name != "FALSE", "programs TRUE and FALSE")
		c.want(!slices.ContainsFunc(x.Names, func(n api.Named) bool { return n.Name == p.Name }), "programs unlike Names")
		c.want(len(p.Versions) >= 1 && len(p.Versions) <= 64, "how many versions")
		c.want(word(p.Number), "programs' numbers")
		var versions []string
		var versionNumbers []int
		for _, v := range p.Versions {
			versions, versionNumbers = append(versions, v.Name), append(versionNumbers, v.Number)
			c.want(lex.IsName(v.Name), "versions' names")
			c.want(word(v.Number), "versions' numbers")
			brokenProcs(c, x, v)
		}
		c.want(!twice(versions), "versions unlike")
		c.want(!twice(versionNumbers), "versions' numbers unlike")
	}
	c.want(!twice(names), "programs unlike")
	c.want(!twice(numbers), "programs' numbers unlike")
}

func brokenProcs(c clauses, x api.Schema, v api.Version) {
	c.want(len(v.Procs) >= 1 && len(v.Procs) <= 64, "how many procedures")
	var names []string
	var numbers []int
	for _, p := range v.Procs {
		names, numbers = append(names, p.Name), append(numbers, p.Number)
		c.want(lex.IsName(p.Name), "procedures' names")
		c.want(p.Number >= 0 && p.Number <= 1<<32-1, "procedures' numbers")
		c.want(len(p.Args) <= 4, "how many arguments")
		for _, a := range p.Args {
			c.want(a >= 1 && a < len(x.Types), "arguments' places")
		}
		c.want(p.Result >= 0 && p.Result < len(x.Types), "results' places")
		c.want(p.Number != 0 || len(p.Args) == 0 && p.Result == 0, "the procedure 0")
	}
	c.want(!twice(names), "procedures unlike")
	c.want(!twice(numbers), "procedures' numbers unlike")
}
