package schema_test

import (
	"math/rand"
	"strconv"
	"strings"
)

// maker makes sources, definition by definition, out of names that stand for what is wanted; now and then it slips.
type maker struct {
	r           *rand.Rand
	slip        int // one of so many things is wrong; 0: none
	types       []string
	tellers     []string            // types that tell arms apart
	constants   []string            // of small numbers, from 1 on
	members     map[string][]string // of each enum that is defined
	lastMembers []string            // of the enum that was made last
	programs    []string
	own         string
	loose       bool
	fresh       int
	bodies      int
}

func newMaker(r *rand.Rand, slip int) *maker {
	return &maker{r: r, slip: slip, members: map[string][]string{}}
}

func (m *maker) slips() bool { return m.slip > 0 && m.r.Intn(m.slip) == 0 }

func (m *maker) pick(list ...string) string { return list[m.r.Intn(len(list))] }

// newName is a name that does not stand yet.
func (m *maker) newName() string {
	if m.slips() {
		return m.anyName()
	}
	m.fresh++
	return m.pick("a", "B", "n_", "TRUE") + strconv.Itoa(m.fresh)
}

// anyName is one that may stand for anything, or nothing.
func (m *maker) anyName() string {
	all := append([]string{"TRUE", "FALSE", "nobody", "b"}, m.types...)
	all = append(append(all, m.constants...), m.programs...)
	if m.own != "" {
		all = append(all, m.own, m.own, m.own)
	}
	return m.pick(all...)
}

// localName is a name of a field, an arm, a version or a procedure.
func (m *maker) localName(i int) string {
	if m.slips() {
		i = 0
	}
	if i == 1 && m.r.Intn(5) == 0 {
		return "TRUE"
	}
	return "l" + strconv.Itoa(i)
}

func (m *maker) word(i int) string {
	if m.slips() {
		i = 0
	}
	return m.pick(strconv.Itoa(i), "0x"+strconv.FormatInt(int64(i), 16))
}

// size is a value for a fixed or a loose length.
func (m *maker) size(fixed bool) string {
	switch {
	case m.slips():
		return m.pick("0", "-1", "1001", "1000", "126", "251", m.anyName(), "4294967295")
	case m.r.Intn(3) == 0 && len(m.constants) > 0:
		return m.pick(m.constants...)
	case fixed:
		return m.pick("1", "2", "3", "5")
	}
	return m.pick("0", "1", "7", "4294967295", "1000")
}

// source is the definitions of one.
func (m *maker) source() []string {
	var defs []string
	n := m.r.Intn(8)
	if m.r.Intn(10) == 0 {
		n = 20
	}
	for range n {
		defs = append(defs, m.definition())
	}
	return defs
}

func (m *maker) definition() string {
	switch m.r.Intn(8) {
	case 0:
		name := m.newName()
		n := 1 + m.r.Intn(9)
		if m.slips() {
			n = []int{0, -1, 1 << 31, 1<<32 - 1, -1 << 31, 2000}[m.r.Intn(6)]
		}
		m.constants = append(m.constants, name)
		return "const " + name + " = " + strconv.Itoa(n) + ";"
	case 1, 2:
		name := ""
		text := "typedef " + m.declaration(func() string {
			name = m.newName()
			return name
		}) + ";"
		m.types = append(m.types, name)
		return text
	case 3:
		return m.program()
	}
	m.own = m.newName()
	word := m.pick("enum", "struct", "struct", "union", "union")
	text := word + " " + m.own + " " + m.body(word) + ";"
	m.types = append(m.types, m.own)
	if word == "enum" {
		m.tellers = append(m.tellers, m.own)
		m.members[m.own] = m.lastMembers
	}
	m.own = ""
	return text
}

func (m *maker) body(word string) string {
	m.bodies++
	defer func() { m.bodies-- }()
	switch word {
	case "enum":
		return m.enum()
	case "struct":
		return m.structure()
	}
	return m.union()
}

func (m *maker) enum() string {
	var parts, names []string
	for i := range 1 + m.r.Intn(3) {
		name := m.newName()
		value := strconv.Itoa(i + 1)
		if m.slips() {
			value = m.pick("0", "1", "4294967295", "-2147483648", m.anyName())
		}
		parts = append(parts, name+" = "+value)
		names = append(names, name)
		m.constants = append(m.constants, name)
	}
	m.lastMembers = names
	return "{ " + strings.Join(parts, ", ") + " }"
}

func (m *maker) structure() string {
	text := "{ "
	for i := range 1 + m.r.Intn(3) {
		if m.slips() {
			text += m.pick("void; ", "int l0; ")
		}
		text += m.declaration(func() string { return m.localName(i) }) + "; "
	}
	return text + "}"
}

func (m *maker) union() string {
	of, cases := m.discriminant()
	text := "switch (" + of + " d) { "
	if m.slips() {
		text = "switch (" + m.pick("void", "int *d", "int d<>", "opaque d[1]", m.anyName()+" d") + ") { "
	}
	for i := range 1 + m.r.Intn(2) {
		if i > 0 && len(cases) == 0 {
			break
		}
		for range 1 + m.r.Intn(2) {
			n := "1"
			if len(cases) > 0 {
				n, cases = cases[0], cases[1:]
			} else if !m.slips() {
				break
			}
			if m.slips() {
				n = m.pick("0", "1", "2", "-1", "4294967295", "2147483648", m.anyName())
			}
			text += "case " + n + ": "
		}
		text += m.armDeclaration(i) + "; "
	}
	if m.r.Intn(2) == 0 {
		text += "default: " + m.armDeclaration(9) + "; "
	}
	return text + "}"
}

func (m *maker) armDeclaration(i int) string {
	if m.r.Intn(3) == 0 {
		return "void"
	}
	return m.declaration(func() string {
		if m.slips() {
			return "d"
		}
		return m.localName(i)
	})
}

// discriminant is a type, and numbers of it.
func (m *maker) discriminant() (string, []string) {
	if m.r.Intn(4) == 0 && len(m.tellers) > 0 {
		name := m.pick(m.tellers...)
		return name, m.members[name]
	}
	switch m.r.Intn(4) {
	case 0:
		return "bool", []string{m.pick("TRUE", "1"), m.pick("FALSE", "0")}
	case 1:
		return "unsigned int", []string{"4294967295", "0", "7"}
	case 2:
		if m.bodies < 8 {
			text := "enum " + m.enum()
			return text, m.lastMembers
		}
	}
	return "int", []string{"-2147483648", "2147483647", "0", "3"}
}

// declaration asks for its name behind its type, as that may take names.
func (m *maker) declaration(name func() string) string {
	switch m.r.Intn(8) {
	case 0:
		return "opaque " + name() + "[" + m.size(true) + "]"
	case 1:
		return "opaque " + name() + "<" + m.pick("", m.size(false)) + ">"
	case 2:
		return "string " + name() + "<" + m.pick("", m.size(false)) + ">"
	case 3:
		of := m.within(true)
		return of + " *" + name()
	case 4:
		of := m.within(true)
		return of + " " + name() + "<" + m.pick("", m.size(false)) + ">"
	case 5:
		of := m.within(false)
		return of + " " + name() + "[" + m.size(true) + "]"
	}
	of := m.within(false)
	return of + " " + name()
}

func (m *maker) within(loose bool) string {
	around := m.loose
	m.loose = around || loose
	defer func() { m.loose = around }()
	if m.bodies < 8 && m.r.Intn(4) == 0 {
		word := m.pick("enum", "struct", "union")
		return word + " " + m.body(word)
	}
	if m.own != "" && m.loose && m.r.Intn(3) == 0 {
		return m.own
	}
	return m.bare()
}

func (m *maker) bare() string {
	if m.slips() {
		return m.anyName()
	}
	if len(m.types) > 0 && m.r.Intn(2) == 0 {
		return m.pick(m.types...)
	}
	return m.pick("int", "unsigned int", "hyper", "unsigned hyper", "float", "double", "bool")
}

func (m *maker) program() string {
	name := m.newName()
	m.programs = append(m.programs, name)
	text := "program " + name + " { "
	for v := range 1 + m.r.Intn(3) {
		text += "version " + m.localName(v) + " { "
		for p := range 1 + m.r.Intn(3) {
			text += m.procedure(p)
		}
		text += "} = " + m.word(v) + "; "
	}
	return text + "} = " + m.word(len(m.programs)) + ";"
}

func (m *maker) procedure(p int) string {
	if p == 0 && !m.slips() {
		return "void " + m.localName(p) + "(void) = " + m.word(p) + "; "
	}
	text := m.pick("void", m.bare()) + " " + m.localName(p) + "("
	if m.r.Intn(3) == 0 {
		text += "void"
	} else {
		args := []string{m.bare()}
		for range m.r.Intn(4) {
			args = append(args, m.bare())
		}
		text += strings.Join(args, ", ")
	}
	return text + ") = " + m.word(p) + "; "
}
