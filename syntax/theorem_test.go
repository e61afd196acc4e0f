package syntax_test

import (
	"math"
	"math/rand"
	"slices"
	"strconv"
	"strings"
	"testing"
	"unsafe"

	"callbox/api"
	"callbox/syntax"
)

// maker makes a tree, a source that says it, with whatever between its tokens, and its shortest one.
type maker struct {
	r        *rand.Rand
	text     strings.Builder
	shortest strings.Builder
	bodies   int
}

func isRun(c byte) bool {
	return strings.IndexByte("abcdefghijklmnopqrstuvwxyzABCDEFGHIJKLMNOPQRSTUVWXYZ0123456789_", c) >= 0
}

// lay lays a token down, written in one way in the source, in another one in the shortest; it says where it begins.
func (m *maker) lay(written, bare string) int {
	blank := false
	if s := m.shortest.String(); s != "" && isRun(s[len(s)-1]) && isRun(bare[0]) {
		m.shortest.WriteByte(' ')
		blank = true
	}
	m.shortest.WriteString(bare)
	for blank || m.r.Intn(3) == 0 {
		m.text.WriteString([]string{" ", "\n", "\t", "\r", "/**/", "/* ; */"}[m.r.Intn(6)])
		blank = false
	}
	place := m.text.Len()
	m.text.WriteString(written)
	return place
}

// word lays words and signs down, and says where the first one begins.
func (m *maker) word(texts ...string) int {
	place := m.lay(texts[0], texts[0])
	for _, text := range texts[1:] {
		m.lay(text, text)
	}
	return place
}

func (m *maker) name() (string, int) {
	name := []string{"a", "B", "TRUE", "int_", "x9", "n" + strings.Repeat("_", 31)}[m.r.Intn(6)]
	return name, m.word(name)
}

func (m *maker) named(kind int, kids ...tree) tree {
	name, place := m.name()
	return at(place, named(kind, name, kids...))
}

func (m *maker) number(least int) tree {
	n := []int{0, 1, 7, 1000, 1 << 28, math.MaxInt32, api.MaxWord, -1, math.MinInt32}[m.r.Intn(9)]
	n = max(n, least)
	written := strconv.Itoa(n)
	switch {
	case n >= 0 && m.r.Intn(4) == 0:
		written = "0x" + strconv.FormatInt(int64(n), 16)
	case n >= 0 && m.r.Intn(4) == 0:
		written = "0" + strconv.FormatInt(int64(n), 8)
	}
	return at(m.lay(written, strconv.Itoa(n)), number(n))
}

func (m *maker) value() tree {
	if m.r.Intn(2) == 0 {
		return m.named(api.NodeRef)
	}
	return m.number(math.MinInt32)
}

// many makes one at least, and seldom as many as there may be.
func (m *maker) many(most int, one func(i int) tree) []tree {
	n := 1 + m.r.Intn(3)
	if m.r.Intn(40) == 0 && m.bodies < 2 {
		n = most
	}
	var out []tree
	for i := range n {
		out = append(out, one(i))
	}
	return out
}

func (m *maker) source() tree {
	var defs []tree
	if m.r.Intn(20) > 0 {
		defs = m.many(20, func(int) tree {
			t := m.definition()
			m.word(";")
			return t
		})
	}
	return source(defs...)
}

func (m *maker) definition() tree {
	switch m.r.Intn(4) {
	case 0:
		m.word("const")
		t := m.named(api.NodeConst)
		m.word("=")
		t.Kids = []tree{m.number(math.MinInt32)}
		return t
	case 1:
		place := m.word("typedef")
		return at(place, node(api.NodeTypedef, m.something()))
	case 2:
		return m.body(true)
	}
	return m.numbered(api.NodeProgram, "program", func(int) tree {
		t := m.numbered(api.NodeVersion, "version", m.procedure)
		m.word(";")
		return t
	})
}

func (m *maker) numbered(kind int, word string, part func(int) tree) tree {
	m.word(word)
	t := m.named(kind)
	m.word("{")
	parts := m.many(64, part)
	m.word("}", "=")
	t.Kids = append([]tree{m.number(0)}, parts...)
	return t
}

func (m *maker) procedure(int) tree {
	result := m.bareOrVoid()
	t := m.named(api.NodeProc)
	m.word("(")
	var args []tree
	if m.r.Intn(2) == 0 {
		args = []tree{m.bareOrVoid()}
	} else {
		args = m.many(4, func(i int) tree {
			if i > 0 {
				m.word(",")
			}
			return m.bare()
		})
	}
	m.word(")", "=")
	t.Kids = append([]tree{m.number(0), result}, args...)
	m.word(";")
	return t
}

func (m *maker) bareOrVoid() tree {
	if m.r.Intn(3) == 0 {
		return at(m.word("void"), node(api.NodeVoid))
	}
	return m.bare()
}

func (m *maker) bare() tree {
	b := bares[m.r.Intn(len(bares))]
	if b.want.Kind == api.NodeRef {
		return m.named(api.NodeRef)
	}
	return at(m.word(strings.Fields(b.text)...), node(b.want.Kind))
}

func (m *maker) body(hasName bool) tree {
	m.bodies++
	which := m.r.Intn(3)
	t := tree{At: m.word([]string{"enum", "struct", "union"}[which])}
	if hasName {
		t.Name, t.At = m.name()
	}
	switch which {
	case 0:
		m.word("{")
		t.Kind, t.Kids = api.NodeEnum, m.many(64, m.member)
	case 1:
		m.word("{")
		t.Kind, t.Kids = api.NodeStruct, m.many(64, func(int) tree { return m.field() })
	case 2:
		m.word("switch", "(")
		t.Kind, t.Kids = api.NodeUnion, []tree{m.declaration()}
		m.word(")", "{")
		t.Kids = append(t.Kids, m.many(64, m.arm)...)
		if m.r.Intn(2) == 0 {
			place := m.word("default", ":")
			t.Kids = append(t.Kids, at(place, node(api.NodeElse, m.field())))
		}
	}
	m.word("}")
	m.bodies--
	return t
}

func (m *maker) member(i int) tree {
	if i > 0 {
		m.word(",")
	}
	t := m.named(api.NodeMember)
	m.word("=")
	t.Kids = []tree{m.value()}
	return t
}

func (m *maker) field() tree {
	t := m.declaration()
	m.word(";")
	return t
}

func (m *maker) arm(int) tree {
	t := node(api.NodeCase)
	t.Kids = m.many(64, func(i int) tree {
		if place := m.word("case"); i == 0 {
			t.At = place
		}
		v := m.value()
		m.word(":")
		return v
	})
	t.Kids = append(t.Kids, m.field())
	return t
}

func (m *maker) declaration() tree {
	if m.r.Intn(4) == 0 {
		return at(m.word("void"), node(api.NodeVoid))
	}
	return m.something()
}

func (m *maker) something() tree {
	var of tree
	which := m.r.Intn(12)
	switch {
	case which == 0:
		of = at(m.word("opaque"), node(api.NodeOpaque))
	case which == 1:
		of = at(m.word("string"), node(api.NodeString))
	case which < 6 && m.bodies < mostBodies:
		of = m.body(false)
	default:
		of = m.bare()
	}
	form := m.r.Intn(4)
	if of.Kind == api.NodeString {
		form = 1
	} else if of.Kind == api.NodeOpaque {
		form = m.r.Intn(2)
	}
	switch form {
	case 0:
		t := m.named(api.NodeFixed, of)
		m.word("[")
		t.Kids = append(t.Kids, m.value())
		m.word("]")
		return t
	case 1:
		t := m.named(api.NodeList, of)
		m.word("<")
		if m.r.Intn(2) == 0 {
			t.Kids = append(t.Kids, m.value())
		}
		m.word(">")
		return t
	case 2:
		m.word("*")
		return m.named(api.NodeMaybe, of)
	}
	return m.named(api.NodePlain, of)
}

// made is a tree that is read from a source of at most 16000 bytes.
func made(r *rand.Rand) (tree, string, string) {
	for {
		m := &maker{r: r}
		if x := m.source(); m.text.Len() <= api.MaxSource {
			return x, m.text.String(), m.shortest.String()
		}
	}
}

// scatter lays other places in all nodes: nobody looks at them.
func scatter(x tree, r *rand.Rand) tree {
	x.At = []int{0, -1, math.MinInt, math.MaxInt, r.Intn(100)}[r.Intn(5)]
	x.Kids = slices.Clone(x.Kids)
	for i := range x.Kids {
		x.Kids[i] = scatter(x.Kids[i], r)
	}
	return x
}

// TestMadeTrees is S1, S2 and S4 of sources that are right.
func TestMadeTrees(t *testing.T) {
	r := rand.New(rand.NewSource(10))
	kinds := map[int]int{}
	for range 4000 {
		x, s, shortest := made(r)
		wantTree(t, s, x)
		wantText(t, scatter(x, r), shortest)
		wantShortest(t, shortest)
		if len(shortest) > len(s) {
			t.Errorf("%s is longer than %s", short(shortest), short(s))
		}
		again, e, _ := syntax.Parse(shortest)
		if e != api.OK || !syntax.Same(again, x) || !syntax.Same(x, again) {
			t.Errorf("%s: %v, %d, not %v", short(shortest), again, e, x)
		}
		count(x, kinds)
		if t.Failed() {
			return
		}
	}
	for kind := api.NodeSource; kind <= api.NodeNumber; kind++ {
		if kinds[kind] < 100 {
			t.Errorf("the kind %d came %d times", kind, kinds[kind])
		}
	}
}

func count(x tree, kinds map[int]int) {
	kinds[x.Kind]++
	for _, kid := range x.Kids {
		count(kid, kinds)
	}
}

// loose lays tokens down for any tree whatever; of a tree of a source it is the shortest one.
func loose(x tree) []string {
	kid := func(i int) []string {
		if i < len(x.Kids) {
			return loose(x.Kids[i])
		}
		return []string{"?"}
	}
	from := func(i int, gap string, behind ...string) []string {
		var out []string
		for j := i; j < len(x.Kids); j++ {
			if j > i && gap != "" {
				out = append(out, gap)
			}
			out = append(append(out, loose(x.Kids[j])...), behind...)
		}
		return out
	}
	last := len(x.Kids) - 1
	switch x.Kind {
	case api.NodeSource:
		return from(0, "", ";")
	case api.NodeConst:
		return slices.Concat([]string{"const", x.Name, "="}, kid(0))
	case api.NodeTypedef:
		return append([]string{"typedef"}, kid(0)...)
	case api.NodeEnum:
		return slices.Concat([]string{"enum", x.Name, "{"}, from(0, ","), []string{"}"})
	case api.NodeMember:
		return slices.Concat([]string{x.Name, "="}, kid(0))
	case api.NodeStruct:
		return slices.Concat([]string{"struct", x.Name, "{"}, from(0, "", ";"), []string{"}"})
	case api.NodeUnion:
		return slices.Concat([]string{"union", x.Name, "switch", "("}, kid(0), []string{")", "{"}, from(1, "", ";"), []string{"}"})
	case api.NodeCase:
		out := []string{}
		for i := range last {
			out = slices.Concat(out, []string{"case"}, kid(i), []string{":"})
		}
		return append(out, kid(max(last, 0))...)
	case api.NodeElse:
		return append([]string{"default", ":"}, kid(0)...)
	case api.NodeProgram:
		return slices.Concat([]string{"program", x.Name, "{"}, from(1, "", ";"), []string{"}", "="}, kid(0))
	case api.NodeVersion:
		return slices.Concat([]string{"version", x.Name, "{"}, from(1, "", ";"), []string{"}", "="}, kid(0))
	case api.NodeProc:
		return slices.Concat(kid(1), []string{x.Name, "("}, from(2, ","), []string{")", "="}, kid(0))
	}
	return looseLeaf(x, kid)
}

func looseLeaf(x tree, kid func(int) []string) []string {
	switch x.Kind {
	case api.NodeVoid:
		return []string{"void"}
	case api.NodePlain:
		return append(kid(0), x.Name)
	case api.NodeFixed:
		return slices.Concat(kid(0), []string{x.Name, "["}, kid(1), []string{"]"})
	case api.NodeList:
		if len(x.Kids) < 2 {
			return append(kid(0), x.Name, "<", ">")
		}
		return slices.Concat(kid(0), []string{x.Name, "<"}, kid(1), []string{">"})
	case api.NodeMaybe:
		return append(kid(0), "*", x.Name)
	case api.NodeOpaque:
		return []string{"opaque"}
	case api.NodeString:
		return []string{"string"}
	case api.NodeRef:
		return []string{x.Name}
	case api.NodeNumber:
		return []string{strconv.Itoa(x.Number)}
	}
	for _, b := range bares {
		if b.want.Kind == x.Kind {
			return strings.Fields(b.text)
		}
	}
	return []string{"?"}
}

func joined(tokens []string) string {
	out := ""
	for _, k := range tokens {
		if out != "" && k != "" && isRun(out[len(out)-1]) && isRun(k[0]) {
			out += " "
		}
		out += k
	}
	return out
}

// checkPrint: a tree is one of a source just if its tokens are read as it.
func checkPrint(t *testing.T, x tree) bool {
	t.Helper()
	want := joined(loose(x))
	read, e, _ := syntax.Parse(want)
	if e != api.OK || !syntax.Same(read, x) {
		wantNoTree(t, x)
		return false
	}
	wantText(t, x, want)
	return true
}

func clone(x tree) tree {
	x.Kids = slices.Clone(x.Kids)
	for i := range x.Kids {
		x.Kids[i] = clone(x.Kids[i])
	}
	return x
}

// nodes are all nodes of a tree, to be changed.
func nodes(x *tree, out []*tree) []*tree {
	out = append(out, x)
	for i := range x.Kids {
		out = nodes(&x.Kids[i], out)
	}
	return out
}

var oddNames = []string{"", "b", "TRUE", "int", "void", "quadruple", "1", "-1", "_", "a b", " a", "a ", "a;", "a/**/", "é", "\x00", "*", strings.Repeat("n", 32), strings.Repeat("n", 33)}

var oddNumbers = []int{0, 1, -1, math.MinInt32, math.MinInt32 - 1, math.MaxInt32, math.MaxInt32 + 1, api.MaxWord, api.MaxWord + 1, math.MinInt, math.MaxInt}

// samples are nodes of each kind, and of none.
func samples() []tree {
	void, one := node(api.NodeVoid), number(1)
	arm := node(api.NodeCase, one, void)
	procedure := named(api.NodeProc, "A", one, void, void)
	version := named(api.NodeVersion, "V", one, procedure)
	out := []tree{
		source(), named(api.NodeConst, "A", one), node(api.NodeTypedef, plain("a")), node(api.NodeEnum, named(api.NodeMember, "A", one)), named(api.NodeEnum, "e", named(api.NodeMember, "A", one)), named(api.NodeMember, "A", one),
		node(api.NodeStruct, plain("a")), named(api.NodeStruct, "s", plain("a")), node(api.NodeUnion, void, arm), named(api.NodeUnion, "u", void, arm, node(api.NodeElse, void)), arm, node(api.NodeElse, void),
		named(api.NodeProgram, "P", one, version), version, procedure, plain("a"), named(api.NodeFixed, "a", ref("b"), one), named(api.NodeFixed, "a", node(api.NodeOpaque), one), named(api.NodeList, "a", ref("b")), named(api.NodeList, "a", node(api.NodeString), one),
		named(api.NodeMaybe, "a", ref("b")), ref("a"), one, number(-1), {Kind: 29}, {Kind: -1}, {},
	}
	for _, kind := range []int{api.NodeVoid, api.NodeInt, api.NodeUint, api.NodeHyper, api.NodeUhyper, api.NodeFloat, api.NodeDouble, api.NodeBool, api.NodeOpaque, api.NodeString} {
		out = append(out, node(kind))
	}
	return out
}

// spoilers are changes of a node, one each.
func spoilers() []func(x *tree) {
	var out []func(x *tree)
	for kind := -1; kind <= 29; kind++ {
		out = append(out, func(x *tree) { x.Kind = kind })
	}
	for _, name := range oddNames {
		out = append(out, func(x *tree) { x.Name = name })
	}
	for _, n := range oddNumbers {
		out = append(out, func(x *tree) { x.Number = n })
	}
	out = append(out, func(x *tree) { x.Kids = nil }, func(x *tree) { slices.Reverse(x.Kids) })
	for _, s := range samples() {
		out = append(out,
			func(x *tree) { *x = clone(s) },
			func(x *tree) { x.Kids = append(x.Kids, clone(s)) },
			func(x *tree) { x.Kids = append([]tree{clone(s)}, x.Kids...) },
			func(x *tree) { x.Kids = []tree{clone(s)} },
			func(x *tree) { x.Kids = []tree{clone(s), clone(s)} })
	}
	for i := range 3 {
		out = append(out,
			func(x *tree) { x.Kids = slices.Delete(x.Kids, min(i, len(x.Kids)), min(i+1, len(x.Kids))) },
			func(x *tree) { x.Kids = slices.Insert(x.Kids, min(i, len(x.Kids)), x.Kids[:min(i+1, len(x.Kids))]...) })
	}
	return out
}

// TestTreesSpoilt: each node of trees that have all kinds, changed in each way: most are trees of no source then.
func TestTreesSpoilt(t *testing.T) {
	right, wrong := 0, 0
	spoil := spoilers()
	for _, s := range corpus {
		base, e, _ := syntax.Parse(s)
		if e != api.OK {
			t.Fatalf("%s: %d", s, e)
		}
		for i := range nodes(&base, nil) {
			for _, change := range spoil {
				x := clone(base)
				change(nodes(&x, nil)[i])
				if checkPrint(t, x) {
					right++
				} else {
					wrong++
				}
			}
		}
		if t.Failed() {
			return
		}
	}
	if right < 1000 || wrong < 1000 {
		t.Errorf("%d are right, %d wrong", right, wrong)
	}
}

// TestTreesSpoiltAtRandom: several changes, of made trees.
func TestTreesSpoiltAtRandom(t *testing.T) {
	r := rand.New(rand.NewSource(11))
	spoil := spoilers()
	for range 5000 {
		x, _, _ := made(r)
		x = clone(x)
		for range 1 + r.Intn(2) {
			all := nodes(&x, nil)
			spoil[r.Intn(len(spoil))](all[r.Intn(len(all))])
		}
		checkPrint(t, x)
		if t.Failed() {
			return
		}
	}
}

// TestNoTrees: some that no source says, of each kind of node, told by hand.
func TestNoTrees(t *testing.T) {
	void, one := node(api.NodeVoid), number(1)
	arm := node(api.NodeCase, one, void)
	in := func(d tree) tree { return named(api.NodeStruct, "s", d) }
	of := func(x tree) tree { return in(named(api.NodePlain, "a", x)) }
	program := func(procedure tree) tree {
		return named(api.NodeProgram, "P", one, named(api.NodeVersion, "V", one, procedure))
	}
	for _, x := range []tree{
		{}, {Kind: -1}, {Kind: 29}, named(api.NodeSource, "a"), {Kind: api.NodeSource, Number: 1}, source(source()), named(api.NodeConst, "A", one), one, ref("a"), void,
	} {
		wantNoTree(t, x)
	}
	for _, x := range []tree{
		{}, {Kind: -1}, {Kind: 29}, one, ref("a"), void,
		node(api.NodeConst, one), named(api.NodeConst, "A"), named(api.NodeConst, "A", one, one), named(api.NodeConst, "A", ref("B")), named(api.NodeConst, "1", one), named(api.NodeConst, "A", number(1<<32)), named(api.NodeConst, "A", number(-1<<31-1)), tree{Kind: api.NodeConst, Name: "A", Number: 1, Kids: []tree{one}}, named(api.NodeConst, "A", named(api.NodeNumber, "B")), named(api.NodeConst, "A", node(api.NodeNumber, one)),
		node(api.NodeTypedef), node(api.NodeTypedef, void), node(api.NodeTypedef, node(api.NodeInt)), named(api.NodeTypedef, "a", plain("a")), node(api.NodeTypedef, plain("a"), plain("b")), plain("a"),
		node(api.NodeEnum, named(api.NodeMember, "A", one)), named(api.NodeEnum, "e"), named(api.NodeEnum, "e", one), named(api.NodeEnum, "e", node(api.NodeMember, one)), named(api.NodeEnum, "e", named(api.NodeMember, "A")), named(api.NodeEnum, "e", named(api.NodeMember, "A", node(api.NodeInt))), named(api.NodeEnum, "e", named(api.NodeMember, "A", one, one)),
		named(api.NodeStruct, "s"), node(api.NodeStruct, plain("a")), named(api.NodeStruct, "s", ref("a")), of(named(api.NodeStruct, "t", plain("a"))), of(named(api.NodeEnum, "e", named(api.NodeMember, "A", one))), of(named(api.NodeUnion, "u", void, arm)),
		named(api.NodeUnion, "u"), named(api.NodeUnion, "u", void), named(api.NodeUnion, "u", arm, arm), named(api.NodeUnion, "u", void, node(api.NodeElse, void)), named(api.NodeUnion, "u", void, node(api.NodeElse, void), arm), named(api.NodeUnion, "u", void, arm, node(api.NodeElse, void), node(api.NodeElse, void)), named(api.NodeUnion, "u", void, arm, node(api.NodeElse)), named(api.NodeUnion, "u", void, arm, node(api.NodeElse, void, void)), named(api.NodeUnion, "u", void, arm, void),
		named(api.NodeUnion, "u", void, node(api.NodeCase)), named(api.NodeUnion, "u", void, node(api.NodeCase, void)), named(api.NodeUnion, "u", void, node(api.NodeCase, one)), named(api.NodeUnion, "u", void, node(api.NodeCase, one, one)), named(api.NodeUnion, "u", void, node(api.NodeCase, void, void)), named(api.NodeUnion, "u", void, named(api.NodeCase, "a", one, void)),
		named(api.NodeProgram, "P", one), named(api.NodeProgram, "P"), node(api.NodeProgram, one, named(api.NodeVersion, "V", one, named(api.NodeProc, "A", one, void, void))), named(api.NodeProgram, "P", one, named(api.NodeVersion, "V", one)), named(api.NodeProgram, "P", number(-1), named(api.NodeVersion, "V", one, named(api.NodeProc, "A", one, void, void))), named(api.NodeProgram, "P", one, named(api.NodeVersion, "V", number(-1), named(api.NodeProc, "A", one, void, void))), named(api.NodeProgram, "P", ref("a"), named(api.NodeVersion, "V", one, named(api.NodeProc, "A", one, void, void))), named(api.NodeProgram, "P", named(api.NodeVersion, "V", one, named(api.NodeProc, "A", one, void, void)), one), named(api.NodeVersion, "V", one, named(api.NodeProc, "A", one, void, void)),
		program(named(api.NodeProc, "A")), program(named(api.NodeProc, "A", one, void)), program(named(api.NodeProc, "A", number(-1), void, void)), program(named(api.NodeProc, "A", one, void, void, void)), program(named(api.NodeProc, "A", one, void, node(api.NodeInt), void)), program(named(api.NodeProc, "A", one, plain("a"), void)), program(named(api.NodeProc, "A", one, node(api.NodeString), void)), program(named(api.NodeProc, "A", one, node(api.NodeStruct, plain("a")), void)), program(named(api.NodeProc, "A", one, void, node(api.NodeOpaque))), program(node(api.NodeProc, one, void, void)),
		in(named(api.NodeVoid, "a")), in(node(api.NodeVoid, void)), in(tree{Kind: api.NodeVoid, Number: 1}), in(node(api.NodePlain, node(api.NodeInt))), in(named(api.NodePlain, "a")), in(named(api.NodePlain, "a", node(api.NodeOpaque))), in(named(api.NodePlain, "a", node(api.NodeString))), in(named(api.NodePlain, "a", void)), in(named(api.NodePlain, "a", plain("b"))), in(named(api.NodePlain, "a", one)),
		in(named(api.NodeFixed, "a", node(api.NodeInt))), in(named(api.NodeFixed, "a", one, one)), in(named(api.NodeFixed, "a", node(api.NodeString), one)), in(named(api.NodeFixed, "a", node(api.NodeInt), node(api.NodeInt))), in(named(api.NodeList, "a")), in(named(api.NodeList, "a", node(api.NodeInt), one, one)), in(named(api.NodeList, "a", void)), in(named(api.NodeMaybe, "a")), in(named(api.NodeMaybe, "a", node(api.NodeOpaque))), in(named(api.NodeMaybe, "a", node(api.NodeString))), in(named(api.NodeMaybe, "a", void)),
		of(named(api.NodeInt, "b")), of(node(api.NodeUint, void)), of(tree{Kind: api.NodeHyper, Number: 1}), of(named(api.NodeUhyper, "b")), of(node(api.NodeFloat, void)), of(named(api.NodeDouble, "b")), of(named(api.NodeBool, "b")), of(node(api.NodeRef)), of(named(api.NodeRef, "int")), of(tree{Kind: api.NodeRef, Name: "a", Number: 1}), of(named(api.NodeRef, "a", one)),
		in(named(api.NodeList, "a", named(api.NodeOpaque, "b"))), in(named(api.NodeList, "a", node(api.NodeString, one))), in(named(api.NodeFixed, "a", tree{Kind: api.NodeOpaque, Number: 1}, one)),
	} {
		wantNoTree(t, source(x))
	}
}

// TestHugeTrees: deep ones, wide ones, and ones whose parts stand in many places.
func TestHugeTrees(t *testing.T) {
	for _, kind := range []int{api.NodeSource, api.NodeStruct, api.NodePlain, api.NodeCase, 0} {
		nested := func() tree {
			x := tree{Kind: kind, Name: "a"}
			for range 1<<16 - 1 {
				x = tree{Kind: kind, Name: "a", Kids: []tree{x}}
			}
			return x
		}
		x, y := nested(), nested()
		wantNoTree(t, x)
		wantNoTree(t, source(x))
		if !syntax.Same(x, y) || syntax.Same(x, y.Kids[0]) {
			t.Error("Same of nested trees")
		}
		wide := tree{Kind: kind, Kids: make([]tree, 1<<20)}
		wantNoTree(t, wide)
		if other := clone(wide); !syntax.Same(wide, other) {
			t.Error("Same of wide trees")
		} else if other.Kids[1<<20-1].Kind = 7; syntax.Same(wide, other) {
			t.Error("Same of wide trees that differ at the end")
		}
	}
	long := named(api.NodeConst, strings.Repeat("n", 1<<24), number(1))
	wantNoTree(t, source(long))
	// Its parts stand in 2^30 places: it is too long, which shows early.
	x := plain("a")
	for range 5 {
		x = named(api.NodePlain, "a", node(api.NodeStruct, slices.Repeat([]tree{x}, 64)...))
	}
	wantNoTree(t, source(node(api.NodeTypedef, x)))
}

// lists are where all lists of a tree lie, their spare room too.
func lists(x tree, out [][2]uintptr) [][2]uintptr {
	if cap(x.Kids) > 0 {
		from := uintptr(unsafe.Pointer(unsafe.SliceData(x.Kids)))
		out = append(out, [2]uintptr{from, from + uintptr(cap(x.Kids))*unsafe.Sizeof(tree{})})
	}
	for _, kid := range x.Kids {
		out = lists(kid, out)
	}
	return out
}

// TestNewMemory: no two lists of what comes out share any.
func TestNewMemory(t *testing.T) {
	r := rand.New(rand.NewSource(12))
	for range 200 {
		want, s, _ := made(r)
		first, _, _ := syntax.Parse(s)
		second, _, _ := syntax.Parse(s)
		all := lists(second, lists(first, nil))
		slices.SortFunc(all, func(a, b [2]uintptr) int { return int(a[0]) - int(b[0]) })
		for i := 1; i < len(all); i++ {
			if all[i-1][1] > all[i][0] {
				t.Fatalf("two lists of %s share memory", short(s))
			}
		}
		if !equal(first, want) || !equal(second, want) {
			t.Fatalf("%s is not read as it is", short(s))
		}
	}
}

// roomy is a tree whose lists have spare room, with something in it.
func roomy(x tree) tree {
	kids := make([]tree, 0, len(x.Kids)+2)
	for _, kid := range x.Kids {
		kids = append(kids, roomy(kid))
	}
	kids = append(kids, tree{Kind: 77}, tree{Kind: 78})
	x.Kids = kids[:len(kids)-2]
	return x
}

func isRoomy(x tree) bool {
	n := len(x.Kids)
	spare := x.Kids[n : n+2]
	if spare[0].Kind != 77 || spare[1].Kind != 78 {
		return false
	}
	return !slices.ContainsFunc(x.Kids, func(kid tree) bool { return !isRoomy(kid) })
}

// TestNotWrittenInto: trees that are handed in, and their spare room, stay as they are; nothing of them is kept.
func TestNotWrittenInto(t *testing.T) {
	r := rand.New(rand.NewSource(13))
	spoil := spoilers()
	for i := range 500 {
		want, _, shortest := made(r)
		if i%2 == 0 {
			want = clone(want)
			all := nodes(&want, nil)
			spoil[r.Intn(len(spoil))](all[r.Intn(len(all))])
		}
		x, y := roomy(want), roomy(want)
		s, e := syntax.Print(x)
		syntax.Same(x, y)
		if !equal(x, want) || !equal(y, want) || !isRoomy(x) || !isRoomy(y) {
			t.Fatalf("%v is written into", want)
		}
		for _, one := range nodes(&x, nil) {
			*one = tree{Kind: 79}
		}
		if again, f := syntax.Print(y); s != again || e != f || i%2 == 1 && s != shortest {
			t.Fatalf("%s, %d and then %s, %d", short(s), e, short(again), f)
		}
	}
}

// FuzzParse holds what Parse says of any text against the model, and S4 of what it takes.
func FuzzParse(f *testing.F) {
	for _, s := range append(append(fullCorpus(), corpus...), "", "const A = 0x10;", "typedef void;", "struct s { struct t x; };") {
		f.Add(s)
	}
	f.Fuzz(func(t *testing.T, s string) {
		checkModel(t, s)
		x, e, _ := syntax.Parse(s)
		if e != api.OK {
			return
		}
		printed, e := syntax.Print(x)
		again, f, _ := syntax.Parse(printed)
		if e != api.OK || f != api.OK || len(printed) > len(s) || !syntax.Same(x, again) || printed != joined(loose(x)) {
			t.Errorf("%s: %s, %d, %d", short(s), short(printed), e, f)
		}
	})
}
