package world_test

import (
	"encoding/hex"
	"fmt"
	"math/rand"
	"strings"

	"callbox/api"
	"callbox/cred"
	"callbox/message"
)

func pick[T any](r *rand.Rand, all ...T) T { return all[r.Intn(len(all))] }

// maker makes lines that often have something to do with those ahead of them.
type maker struct {
	r     *rand.Rand
	lines []string
}

func (m *maker) add(format string, parts ...any) {
	m.lines = append(m.lines, fmt.Sprintf(format, parts...))
}

func (m *maker) script() string { return strings.Join(m.lines, "\n") + "\n" }

// sources are lines of a source that may stand one behind the other, but twice, and with some that may not.
var sources = []string{
	"typedef int a;", "struct point { int x; int y; };", "union shape switch (bool b) { case TRUE: point p; default: void; };",
	"typedef string name<9>;", "typedef opaque two[2];", "enum e { ONE = 1, N = -7 };", "struct cell { hyper n; cell *next; };",
	"const FIVE = 5;", "typedef a row<>;", "/*", "*/", " ", "struct s { nobody x; };", "struct", "typedef double d[3];",
	"program P { version V { int ADD(int, int) = 1; void RESET(void) = 2; } = 3; version W { row ALL(row) = 1; } = 4; } = 9;",
}

// texts are some of values, whatever their types.
var texts = []string{"0", "1", "-1", "5", "2147483648", "void", "TRUE", "FALSE", "ONE", "N", "0x1p+0", "nan", "{x=1,y=2}", "{x=1}", "(FALSE)", "(TRUE:p={x=0,y=-5})", `"a"`, `"\x00"`, `"`, "#0011", "#", "[]", "[1,2,3]", "{n=7,next=none}", "{n=1,next=*{n=2,next=none}}", "none", "*1", " 1", "1 ", "x"}

var types = []string{"0", "1", "2", "3", "7", "8", "9", "10", "11", "15", "16", "17", "99", "a", "point", "shape", "name", "two", "e", "cell", "row", "d", "FIVE", "ONE", "nobody"}

func (m *maker) name() string { return pick(m.r, "ann", "ann", "bob", "cy", "dee") }

func (m *maker) port() int { return pick(m.r, 111, 111, 111, 1, 2, 65535, 65536) }

func (m *maker) hex() string {
	return pick(m.r, "-", "00", "00000001", "00000000", "ffffffff", "0000000100000002", "00000001ffffffff0000", "0000000161000000", hexOf(m.r, 12), hexOf(m.r, 40))
}

func hexOf(r *rand.Rand, most int) string {
	b := make([]byte, 1+r.Intn(most))
	r.Read(b)
	return hex.EncodeToString(b)
}

// any adds a line of any form.
func (m *maker) any() {
	r := m.r
	edge := func() int { return pick(r, 0, 0, 1, 1, 2, 3, 9, 64, 65, 100, 1<<20, 1<<32-1, 1<<32, 1<<40) }
	switch form := pick(r, forms...); form {
	case "| TEXT":
		m.add("| %s", pick(r, sources...))
	case "value TYPE TEXT", "arg TYPE TEXT":
		m.add("%s %s %s", strings.Fields(form)[0], pick(r, types...), pick(r, texts...))
	case "bytes TYPE HEX":
		m.add("bytes %s %s", pick(r, types...), m.hex())
	case "table N N N N":
		m.add("table 9 %d %d %d", pick(r, 3, 3, 4, 5), pick(r, 2, 2, 3, edge()), pick(r, 0, 0, 1, edge()))
	case "row N N N TYPE TEXT":
		m.add("row %d %d %d %s %s", r.Intn(2), r.Intn(3), r.Intn(2), pick(r, "1", "0", pick(r, types...)), pick(r, texts...))
	case "server N N N N N":
		m.add("server %d %d %d %d %d", m.port(), pick(r, 2, edge()), pick(r, 4, edge()), pick(r, 400, 6400, edge()), pick(r, 64, 100, edge()))
	case "client NAME N N N N N N":
		m.add("client %s %d %d %d %d %d %d", m.name(), pick(r, 1, edge()), pick(r, 1, edge()), pick(r, 1, edge()), pick(r, 1, 2, edge()), pick(r, 4, edge()), pick(r, 3, edge()))
	case "call NAME N N N N":
		m.add("call %s %d %d %d %d", m.name(), m.port(), pick(r, 9, 9, 9, 100000, edge()), pick(r, 3, 4, 2, edge()), pick(r, 1, 1, 2, 0, edge()))
	case "ask NAME N ASK N N N N":
		m.ask(edge)
	case "deliver N", "drop N", "double N":
		m.add("%s %d", strings.Fields(form)[0], pick(r, 0, 0, 0, 1, 2, edge()))
	case "stray N WHOM HEX":
		m.add("stray %d %s %s", edge(), pick(r, m.name(), fmt.Sprint(m.port())), m.hex())
	case "outcomes NAME":
		m.add("outcomes %s", m.name())
	case "offer N", "mapper N", "work N", "log N", "held N", "state N":
		m.add("%s %d", strings.Fields(form)[0], m.port())
	default:
		m.add("%s", form)
	}
}

func (m *maker) ask(edge func() int) {
	m.add("ask %s %d %s %d %d %d %d", m.name(), m.port(), pick(m.r, "set", "unset", "port", "port", "dump"), pick(m.r, 7, 7, 8, edge()), pick(m.r, 2, 3), pick(m.r, 17, 17, 6, edge()), pick(m.r, 2000, 1, edge()))
}

// anyScript is mostly of few words, after a beginning that gives them a meaning.
func anyScript(r *rand.Rand) string {
	m := &maker{r: r}
	if r.Intn(5) > 0 {
		for _, line := range sources {
			if r.Intn(8) > 0 && !strings.HasPrefix(line, "struct s") && line != "struct" && line != "/*" && line != "*/" {
				m.add("| %s", line)
			}
		}
		m.add("compile")
	}
	if r.Intn(2) == 0 {
		m.add("table 9 3 2 0\nserver 111 2 6 6400 100\noffer 111\nmapper 111\nclient ann 1 %d 2 2 8 4", pick(r, 1, 1<<32-3))
	}
	for range r.Intn(200) {
		m.any()
		if r.Intn(400) == 0 {
			m.lines[len(m.lines)-1] = pick(r, "foo", "tick ", "", "work 01")
		}
	}
	if len(m.lines) > 240 && r.Intn(8) > 0 {
		m.lines = m.lines[:240]
	}
	return m.script()
}

const networkSource = "| program P { version V { int ADD(int, int) = 1; void RESET(void) = 2; } = 3; } = 9;"

// network begins a script of servers, tables, a mapper and clients.
func (m *maker) network() {
	r := m.r
	m.add(networkSource)
	m.add("compile")
	m.add("table 9 3 3 %d", r.Intn(3))
	for n := range 3 * 2 * 2 {
		if r.Intn(4) > 0 {
			m.add("arg 1 %d", n/3%2)
			m.add("arg 1 %d", n/6)
			m.add("row %d 1 %d 1 %d", n%3, r.Intn(3), 100*n+1)
		}
	}
	m.add("row %d 2 %d 0 void", r.Intn(3), r.Intn(3))
	for _, port := range []int{111, 1} {
		entries := 1 + r.Intn(6)
		m.add("server %d %d %d %d %d", port, 1+r.Intn(5), entries, pick(r, 6400, 64*(1+r.Intn(2*entries))), 64)
		m.add("offer %d", port)
	}
	m.add("mapper 111")
	for _, name := range []string{"ann", "bob", "cy"}[:1+r.Intn(3)] {
		m.add("client %s %d %d %d %d %d %d", name, 1+r.Intn(3), pick(r, 1, 77, 1<<32-9), 1+r.Intn(6), 1+r.Intn(3), 3+r.Intn(2), 1+r.Intn(3))
	}
}

// call makes a client call, mostly with as many arguments as are wanted.
func (m *maker) call() {
	r := m.r
	proc := pick(r, 1, 1, 1, 1, 1, 2, 0, 3)
	if proc == 1 || r.Intn(10) == 0 {
		m.add("arg 1 %d", r.Intn(2))
	}
	if proc == 1 && r.Intn(10) > 0 {
		m.add("arg 1 %d", r.Intn(2))
	}
	m.add("call %s %d %d %d %d", pick(r, "ann", "ann", "bob", "cy"), pick(r, 111, 1, 1, 1, 5), pick(r, 9, 9, 9, 9, 9, 8), pick(r, 3, 3, 3, 3, 3, 4), proc)
}

// strange sends a stranger's call, whose arguments hang on whose call it is, and which; or a reply, or whatever.
func (m *maker) strange() {
	r := m.r
	from, sequence := r.Intn(3), 1+r.Intn(5)
	args := strangeArgs(from, sequence)
	switch r.Intn(6) {
	case 0:
		text, _ := message.PrintReply(api.Reply{Xid: pick(r, sequence, 77+sequence), Results: args})
		m.add("stray %d %s %s", from, pick(r, "ann", "bob", "1"), hex.EncodeToString([]byte(text)))
	case 1:
		m.add("stray %d %s %s", from, pick(r, "ann", "bob", "1", "111"), m.hex())
	default:
		a, _ := cred.PrintMark(api.Mark{Instance: 1, Sequence: sequence, Water: 1 + r.Intn(sequence)})
		if r.Intn(6) == 0 {
			a = api.Auth{}
		}
		text, _ := message.PrintCall(api.Call{Xid: sequence, Rpc: 2, Prog: 9, Vers: 3, Proc: 1, Cred: a, Args: args})
		m.add("stray %d %d %s", from, pick(r, 1, 111), hex.EncodeToString([]byte(text)))
	}
}

func strangeArgs(from, sequence int) string {
	return string([]byte{0, 0, 0, byte(from % 2), 0, 0, 0, byte(sequence % 2)})
}

// step is whatever may happen next in a network.
func (m *maker) step() {
	r := m.r
	switch r.Intn(18) {
	case 0, 1, 2:
		m.call()
	case 3:
		m.ask(func() int { return 2 })
	case 4:
		m.add("tick")
	case 5:
		m.add("drop %d", r.Intn(4))
	case 6:
		m.add("double %d", r.Intn(4))
	case 7:
		if r.Intn(4) == 0 {
			m.strange()
		}
	case 8, 9, 10:
		m.add("work %d", pick(r, 1, 1, 111))
	case 11:
		m.add("%s", pick(r, "air", "held 1", "held 111", "state 1", "state 111", "outcomes ann", "outcomes bob", "log 1"))
	default:
		m.add("deliver %d", pick(r, 0, 0, 0, 0, 1, 2, 5))
	}
}

// networkScript ends when all calls have ended, and tells what came of them.
func networkScript(r *rand.Rand) string {
	m := &maker{r: r}
	m.network()
	ends := strings.Fields(strings.Repeat("tick ", 11))
	ends = append(ends, "outcomes ann", "outcomes bob", "outcomes cy", "log 1", "log 111", "state 1", "state 111", "held 1", "held 111")
	for len(m.lines)+3+len(ends) <= 240 && len(m.script()) < 11000 {
		m.step()
	}
	m.lines = append(m.lines, ends...)
	return m.script()
}
