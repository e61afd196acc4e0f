package world_test

import (
	"encoding/hex"
	"fmt"
	"regexp"
	"slices"
	"strconv"
	"strings"

	"callbox/api"
	"callbox/client"
	"callbox/machine"
	"callbox/notation"
	"callbox/portmap"
	"callbox/schema"
	"callbox/server"
	"callbox/value"
)

const (
	aNumber = `(?:0|[1-9][0-9]*)`
	aName   = `[A-Za-z][A-Za-z0-9_]{0,31}`
)

// patterns are the chapter's forms, each word but the first one in brackets.
var patterns = func() []*regexp.Regexp {
	kinds := strings.NewReplacer(
		"NAME", `(`+aName+`)`, "TYPE", `(`+aNumber+`|`+aName+`)`, "WHOM", `(`+aNumber+`|`+aName+`)`,
		"HEX", `(-|(?:[0-9a-f]{2})+)`, "TEXT", `((?s:.+))`, "ASK", `(set|unset|port|dump)`, "N", `(`+aNumber+`)`, "|", `\|`)
	var all []*regexp.Regexp
	for _, form := range forms {
		all = append(all, regexp.MustCompile(`\A`+kinds.Replace(form)+`\n\z`))
	}
	return all
}()

// isRight: is each word a name or a number that may be, where the form has one?
func isRight(form string, words []string) bool {
	for i, kind := range strings.Fields(form) {
		if i == 0 || !strings.Contains("N NAME TYPE WHOM", kind) {
			continue
		}
		if n, err := strconv.ParseInt(words[i], 10, 64); words[i][0] <= '9' && (err != nil || n > 1<<40) {
			return false
		}
		if slices.Contains(ownWords, words[i]) {
			return false
		}
	}
	return true
}

// matched are the words of a line of some form.
func matched(line string) []string {
	for i, p := range patterns {
		if words := p.FindStringSubmatch(line); words != nil && isRight(forms[i], words) {
			words[0] = strings.Fields(forms[i])[0]
			return words
		}
	}
	return nil
}

// offered is a table as it was offered.
type offered struct {
	schema     api.Schema
	prog, vers int
	table      api.Table
}

// model plays scripts as the chapter says it, over layers that are not asked by the program, or are held against it elsewhere: values by layer 6, states by what a log says, and a list for the air.
type model struct {
	source     string
	schema     *api.Schema
	types      []int
	values     []api.Value
	prog, vers int
	table      *api.Table
	servers    map[int]*server.Server
	offers     map[int]offered
	names      []string
	clients    map[string]*client.Client
	under      []api.Packet
	now        int
}

// told is what a line tells when it goes no further.
type told string

func stop(format string, parts ...any) { panic(told(fmt.Sprintf(format, parts...))) }

func need(is bool) {
	if !is {
		stop("none")
	}
}

func check(e api.Errno) {
	if e != api.OK {
		stop("error %d", e)
	}
}

func checkAt(e api.Errno, at int) {
	if e != api.OK {
		stop("error %d at %d", e, at)
	}
}

// modelRun is what Run is to answer.
func modelRun(script string) (string, api.Errno, int) {
	if len(script) > 12000 {
		return "", 221, 0
	}
	var lines [][]string
	for i, line := range regexp.MustCompile(`(?s)[^\n]*\n|[^\n]+\z|\A\z`).FindAllString(script, -1) {
		words := matched(line)
		if words == nil || i == 240 {
			return "", 220, i + 1
		}
		lines = append(lines, words)
	}
	m := &model{servers: map[int]*server.Server{}, offers: map[int]offered{}, clients: map[string]*client.Client{}}
	transcript := ""
	for _, words := range lines {
		transcript += m.play(words) + "\n"
	}
	return transcript, 0, 0
}

func (m *model) play(w []string) (line string) {
	defer func() {
		if x := recover(); x != nil {
			line = string(x.(told))
		}
	}()
	var n []int
	for _, s := range w {
		number, _ := strconv.Atoi(s)
		n = append(n, number)
	}
	switch w[0] {
	case "|", "compile", "stub", "value", "bytes", "arg", "table", "row":
		return m.say(w, n)
	case "server", "offer", "mapper", "work", "log", "held", "state":
		return m.serve(w[0], n)
	case "client", "call", "ask", "outcomes":
		return m.ring(w, n)
	}
	return m.carry(w, n)
}

// place is that of the type that a word names.
func (m *model) place(word string) int {
	need(m.schema != nil)
	if n, err := strconv.Atoi(word); err == nil {
		need(n < len(m.schema.Types))
		return n
	}
	i := slices.IndexFunc(m.schema.Names, func(x api.Named) bool { return x.Name == word && !x.Const })
	need(i >= 0)
	return m.schema.Names[i].Value
}

func (m *model) parse(word, text string) (api.Value, int) {
	place := m.place(word)
	v, e, at := notation.Parse(*m.schema, place, text)
	checkAt(e, at)
	return v, place
}

func bytesText(s string) string {
	if s == "" {
		return "-"
	}
	return hex.EncodeToString([]byte(s))
}

func textBytes(s string) string {
	b, _ := hex.DecodeString(strings.TrimPrefix(s, "-"))
	return string(b)
}

// linesOf is how many lines the stub of a schema has: one ahead, one for each name, two for each type, one for each operation.
func linesOf(x api.Schema) int {
	n := 1 + len(x.Names) + 3*len(x.Types)
	for _, y := range x.Types {
		n += len(y.Fields)
	}
	return n
}

func (m *model) say(w []string, n []int) string {
	switch w[0] {
	case "|":
		m.source += strings.Join(w[1:], "") + "\n"
	case "compile":
		x, e, at := schema.Compile(m.source)
		checkAt(e, at)
		m.schema, m.types, m.values, m.table = &x, nil, nil, nil
		return fmt.Sprintf("types %d names %d programs %d", len(x.Types), len(x.Names), len(x.Programs))
	case "stub":
		need(m.schema != nil)
		return fmt.Sprintf("lines %d", linesOf(*m.schema))
	case "value":
		v, place := m.parse(w[1], w[2])
		s, e := value.Encode(*m.schema, place, v)
		check(e)
		return "bytes " + bytesText(s)
	case "bytes":
		place := m.place(w[1])
		v, e := value.Decode(*m.schema, place, textBytes(w[2]))
		if other := map[api.Errno]api.Errno{62: 94, 63: 23, 64: 93}[e]; other != 0 {
			e = other
		}
		check(e)
		s, e := notation.Print(*m.schema, place, v)
		check(e)
		return "value " + s
	case "arg":
		v, place := m.parse(w[1], w[2])
		m.types, m.values = append(m.types, place), append(m.values, v)
	case "table":
		need(m.schema != nil)
		m.prog, m.vers, m.table = n[1], n[2], &api.Table{States: n[3], Start: n[4]}
	case "row":
		need(m.table != nil)
		v, _ := m.parse(w[4], w[5])
		m.table.Rows = append(m.table.Rows, api.Row{State: n[1], Proc: n[2], To: n[3], Args: m.values, Result: v})
		m.types, m.values = nil, nil
	}
	return "ok"
}

func (m *model) serve(what string, n []int) string {
	port := n[1]
	s, is := m.servers[port]
	if what == "server" {
		switch {
		case is:
			return "there"
		case port > 65535:
			return "error 1"
		}
		s, e := server.New(api.ServerConfig{Address: 65536 + port, Cache: api.CacheConfig{Clients: n[2], Entries: n[3], Bytes: n[4], Reserve: n[5]}})
		check(e)
		m.servers[port] = s
		return "ok"
	}
	need(is)
	switch what {
	case "offer":
		need(m.table != nil)
		x := offered{*m.schema, m.prog, m.vers, *m.table}
		x.table.Rows = slices.Clone(x.table.Rows)
		y, e := machine.New(x.schema, x.prog, x.vers, x.table)
		check(e)
		check(s.Offer(y.Service()))
		m.offers[port] = x
	case "mapper":
		check(s.Offer(portmap.New().Service()))
	case "work":
		l, was := s.Work()
		m.send(l)
		return map[bool]string{true: "done", false: "idle"}[was]
	case "log":
		line := fmt.Sprintf("log %d", len(s.Log()))
		for _, y := range s.Log() {
			line += fmt.Sprintf(" %d:%d:%d:%d:%s", y.Who.Address, y.Sequence, y.Proc, y.Accept, bytesText(y.Results))
		}
		return line
	case "held":
		a, b, c := s.Held()
		return fmt.Sprintf("held %d %d %d queue %d", a, b, c, s.Queue())
	case "state":
		x, was := m.offers[port]
		need(was)
		return fmt.Sprintf("state %d", x.state(s.Log()))
	}
	return "ok"
}

// state is what a log has led to: all its calls came behind the offer.
func (x offered) state(log []api.Entry) int {
	state := x.table.Start
	for _, y := range log {
		if y.Prog == x.prog && y.Vers == x.vers {
			state, _, _ = machine.Step(x.schema, x.prog, x.vers, x.table, state, y.Proc, y.Args)
		}
	}
	return state
}

func (m *model) send(l []api.Packet) {
	for _, p := range l {
		if len(m.under) < 1000 && len(p.Data) <= 1500 {
			m.under = append(m.under, p)
		}
	}
}

// laid are the world's arguments, as bytes.
func (m *model) laid() string {
	all := ""
	for i, v := range m.values {
		s, _ := value.Encode(*m.schema, m.types[i], v)
		all += s
	}
	m.types, m.values = nil, nil
	if len(all) > 1000 {
		stop("error 23")
	}
	return all
}

func (m *model) ring(w []string, n []int) string {
	name := w[1]
	c, is := m.clients[name]
	switch {
	case w[0] != "client":
		need(is)
	case is:
		return "there"
	case len(m.names) == 16:
		return "many"
	default:
		c, e := client.New(api.ClientConfig{Address: addressOf(len(m.names)), Instance: n[2], First: n[3], Window: n[4], Pace: api.Pace{Base: n[5], Cap: n[6], Tries: n[7]}, Sys: api.Sys{Machine: name}})
		check(e)
		m.names, m.clients[name] = append(m.names, name), c
		return "ok"
	}
	if w[0] == "outcomes" {
		return outcomesOf(c.Done())
	}
	if n[2] > 65535 {
		return "error 1"
	}
	prog, vers, proc, args := 100000, 2, 0, ""
	if w[0] == "call" {
		prog, vers, proc, args = n[3], n[4], n[5], m.laid()
	} else {
		proc = 1 + slices.Index([]string{"set", "unset", "port", "dump"}, w[3])
		if proc < 4 {
			for _, word := range n[4:] {
				if word >= 1<<32 {
					return "error 1"
				}
				args += string([]byte{byte(word >> 24), byte(word >> 16), byte(word >> 8), byte(word)})
			}
		}
	}
	sequence, e := c.Call(65536+n[2], prog, vers, proc, args)
	check(e)
	m.send(c.Due())
	return fmt.Sprintf("call %d", sequence)
}

func addressOf(i int) int { return 131072 + 65536*i + 700 }

func outcomesOf(l []api.Outcome) string {
	line := fmt.Sprintf("outcomes %d", len(l))
	for _, o := range l {
		line += fmt.Sprintf(" %d:", o.Sequence) + map[int]string{
			api.OutSuccess: "success:" + bytesText(o.Results),
			api.OutTimeout: "timeout",
			api.OutRefused: "refused",
			api.OutAccept:  fmt.Sprintf("accept:%d", o.Accept),
			api.OutDenied:  fmt.Sprintf("denied:%d:%d", o.Reject, o.Why),
		}[o.Status]
	}
	return line
}

// pick is the place of a datagram that is under way.
func (m *model) pick(n int) int {
	if n >= len(m.under) {
		stop("error 130")
	}
	return n
}

func (m *model) carry(w []string, n []int) string {
	switch w[0] {
	case "tick":
		m.now++
		for _, name := range m.names {
			m.clients[name].Tick()
			m.send(m.clients[name].Due())
		}
		return fmt.Sprintf("time %d", m.now)
	case "deliver":
		i := m.pick(n[1])
		p := m.under[i]
		m.under = slices.Delete(m.under, i, i+1)
		return m.come(p)
	case "drop":
		i := m.pick(n[1])
		m.under = slices.Delete(m.under, i, i+1)
	case "double":
		m.put(m.under[m.pick(n[1])])
	case "stray":
		p := api.Packet{From: 16000000 + min(n[1], 9999), To: 65536 + min(n[2], 65535), Data: textBytes(w[3])}
		if w[2][0] > '9' {
			i := slices.Index(m.names, w[2])
			need(i >= 0)
			p.To = addressOf(i)
		}
		m.put(p)
	case "air":
		line := fmt.Sprintf("flying %d", len(m.under))
		for _, p := range m.under {
			line += fmt.Sprintf(" %d>%d:%d", p.From, p.To, len(p.Data))
		}
		return line
	}
	return "ok"
}

func (m *model) put(p api.Packet) {
	if len(p.Data) > 1500 {
		stop("error 131")
	}
	if len(m.under) == 1000 {
		stop("error 132")
	}
	m.under = append(m.under, p)
}

func (m *model) come(p api.Packet) string {
	if s, is := m.servers[p.To-65536]; is {
		m.send(s.Hear(p))
		return fmt.Sprintf("server %d", p.To-65536)
	}
	for i, name := range m.names {
		if addressOf(i) == p.To {
			return fmt.Sprintf("client %s %d", name, m.clients[name].Hear(p))
		}
	}
	return "nobody"
}
