package server_test

import (
	"math/rand"
	"testing"

	"callbox/air"
	"callbox/api"
	"callbox/client"
	"callbox/machine"
	"callbox/message"
	"callbox/schema"
	"callbox/server"
)

const (
	firstClient   = 1000
	firstStranger = 2000
	nowhere       = 3000
)

// issue is a call as a client made it, and how long the log of the server was to which it goes.
type issue struct {
	to, proc int
	args     string
	logged   int
}

// network is clients, servers of one table each, strangers, and the air between.
type network struct {
	t       *testing.T
	r       *rand.Rand
	air     *air.Air
	schema  api.Schema
	tables  []api.Table
	servers []*server.Server
	caches  []api.CacheConfig
	clients []*client.Client
	whos    []api.Who
	issued  map[identity]issue
	ended   map[identity]api.Outcome
	count   map[string]int
}

func newNetwork(t *testing.T, r *rand.Rand, count map[string]int) *network {
	x, e, _ := schema.Compile("program P { version V { int ADD(int, int) = 1; void RESET(void) = 2; } = 3; } = 9;")
	wantErrno(t, "Compile", e, api.OK)
	n := &network{t: t, r: r, air: air.New(), schema: x, issued: map[identity]issue{}, ended: map[identity]api.Outcome{}, count: count}
	for range 1 + r.Intn(2) {
		n.addServer()
	}
	for range 1 + r.Intn(3) {
		n.addClient()
	}
	return n
}

// makeTable has rows of small numbers, so that calls come upon them.
func makeTable(r *rand.Rand) api.Table {
	y := api.Table{States: 3, Start: r.Intn(3)}
	for n := range 3 * 2 * 2 {
		args := []api.Value{{Kind: api.Int, Int: n / 3 % 2}, {Kind: api.Int, Int: n / 6}}
		if r.Intn(4) > 0 {
			y.Rows = append(y.Rows, api.Row{State: n % 3, Proc: 1, Args: args, To: r.Intn(3), Result: api.Value{Kind: api.Int, Int: 100*n + 1}})
		}
	}
	y.Rows = append(y.Rows, api.Row{State: r.Intn(3), Proc: 2, To: r.Intn(3)})
	return y
}

func (n *network) addServer() {
	c := api.CacheConfig{Clients: 2 + n.r.Intn(5), Entries: 1 + n.r.Intn(6), Reserve: 64}
	c.Bytes = 64 * (1 + n.r.Intn(c.Clients*c.Entries))
	s := serverOf(n.t, api.ServerConfig{Address: here + len(n.servers), Cache: c})
	y := makeTable(n.r)
	m, e := machine.New(n.schema, 9, 3, y)
	wantErrno(n.t, "machine.New", e, api.OK)
	wantErrno(n.t, "Offer", s.Offer(m.Service()), api.OK)
	n.tables, n.servers, n.caches = append(n.tables, y), append(n.servers, s), append(n.caches, c)
}

func (n *network) addClient() {
	config := api.ClientConfig{Address: firstClient + len(n.clients), Instance: 1 + n.r.Intn(3), First: pick(n.r, 1, 77, 1<<32-30), Window: 1 + n.r.Intn(6), Pace: api.Pace{Base: 1 + n.r.Intn(4), Cap: 4 + n.r.Intn(12), Tries: 1 + n.r.Intn(6)}}
	c, e := client.New(config)
	wantErrno(n.t, "client.New", e, api.OK)
	n.clients, n.whos = append(n.clients, c), append(n.whos, api.Who{Address: config.Address, Instance: config.Instance})
}

func (n *network) send(all []api.Packet) {
	for _, p := range all {
		n.air.Send(p)
	}
}

// serverAt is the number of the one at an address; -1: there is none.
func (n *network) serverAt(address int) int {
	if i := address - here; i >= 0 && i < len(n.servers) {
		return i
	}
	return -1
}

func (n *network) call() {
	i := n.r.Intn(len(n.clients))
	x := issue{to: here + n.r.Intn(len(n.servers)), proc: pick(n.r, 0, 1, 1, 1, 1, 1, 2, 3)}
	if n.r.Intn(20) == 0 {
		x.to = nowhere
	}
	if x.proc == 1 || n.r.Intn(12) == 0 {
		x.args = words(n.r.Intn(2), n.r.Intn(2))
	}
	if j := n.serverAt(x.to); j >= 0 {
		x.logged = len(n.servers[j].Log())
	}
	if sequence, e := n.clients[i].Call(x.to, 9, pick(n.r, 3, 3, 3, 3, 3, 3, 3, 4), x.proc, x.args); e == api.OK {
		n.issued[identity{n.whos[i], sequence}] = x
	}
}

// strange is a datagram that somebody sends from an address of their own: another one's with a byte bent, or a call of their own.
func (n *network) strange() {
	p := api.Packet{From: firstStranger + n.r.Intn(3), To: here + n.r.Intn(len(n.servers))}
	l := marked(1+n.r.Intn(3), 1+n.r.Intn(9), 1, words(n.r.Intn(2), n.r.Intn(2)))
	l.prog, l.vers = 9, 3
	switch flying := n.air.Flying(); {
	case n.r.Intn(2) == 0 || len(flying) == 0:
		p.Data = l.text()
	default:
		p.Data = flying[n.r.Intn(len(flying))].Data
		if n.r.Intn(3) > 0 {
			i := n.r.Intn(len(p.Data))
			p.Data = p.Data[:i] + string([]byte{byte(n.r.Intn(256))}) + p.Data[i+1:]
		}
	}
	if n.r.Intn(3) == 0 {
		p.To = firstClient + n.r.Intn(len(n.clients))
	}
	n.send([]api.Packet{p})
}

// work lets a server run a call; what it says must be one reply, and the log one longer, or as it was.
func (n *network) work() {
	s := n.servers[n.r.Intn(len(n.servers))]
	waits, before := s.Queue(), len(s.Log())
	l, is := s.Work()
	if is != (waits > 0) || is != (len(l) == 1) || len(l) > 1 || len(s.Log()) > before+1 {
		n.t.Fatalf("Work: %v, %v, where %d have waited, and the log has grown from %d to %d", l, is, waits, before, len(s.Log()))
	}
	n.send(l)
}

func (n *network) deliver(p api.Packet) {
	if i := p.To - firstClient; i >= 0 && i < len(n.clients) {
		n.clients[i].Hear(p)
		n.look(i)
		return
	}
	i := n.serverAt(p.To)
	if i < 0 {
		return
	}
	l := n.servers[i].Hear(p)
	for _, q := range l {
		if _, e := message.ParseReply(q.Data); e != api.OK || len(l) > 1 || q.From != p.To || q.To != p.From {
			n.t.Fatalf("to %v it is answered %v: %d", p, l, e)
		}
	}
	n.send(l)
	clients, entries, bytes := n.servers[i].Held()
	if c := n.caches[i]; clients > c.Clients || entries > c.Clients*c.Entries || bytes > c.Bytes {
		n.t.Fatalf("%v: Held: %d, %d, %d", c, clients, entries, bytes)
	}
}

// look takes the outcomes of a client: what succeeded was run for it, once, behind its issue, and stands in the log.
func (n *network) look(i int) {
	for _, o := range n.clients[i].Done() {
		id := identity{n.whos[i], o.Sequence}
		x, is := n.issued[id]
		if _, twice := n.ended[id]; !is || twice {
			n.t.Fatalf("%v: an outcome of what was not issued, or another one", id)
		}
		n.ended[id] = o
		n.count[[]string{"", "success", "timeout", "refused", "accept", "denied"}[o.Status]]++
		if o.Status != api.OutSuccess || x.proc == 0 {
			continue
		}
		found := 0
		for at, y := range n.servers[n.serverAt(x.to)].Log() {
			if y.Who != id.who || y.Sequence != id.sequence {
				continue
			}
			found++
			if at < x.logged || y.Accept != api.Success || y.Results != o.Results || y.Proc != x.proc || y.Args != x.args {
				n.t.Fatalf("%v: the outcome %v, and the entry %v, at %d", id, o, y, at)
			}
		}
		if found != 1 {
			n.t.Fatalf("%v: the outcome %v, and it stands in the log %d times", id, o, found)
		}
	}
}

// step is whatever may happen next.
func (n *network) step() {
	flying := len(n.air.Flying())
	i := n.r.Intn(len(n.clients))
	switch n.r.Intn(16) {
	case 0, 1:
		n.call()
	case 2:
		n.clients[i].Tick()
		n.look(i)
	case 3:
		n.air.Drop(n.r.Intn(flying + 1))
	case 4, 5:
		n.air.Double(n.r.Intn(flying + 1))
	case 6:
		n.strange()
	case 7, 8:
		n.work()
	case 9, 10:
		n.send(n.clients[i].Due())
	default:
		if p, e := n.air.Deliver(n.r.Intn(flying + 1)); e == api.OK {
			n.deliver(p)
		}
	}
}

// checkLog is P1 and P2, at the end: each identity once, with what was issued; and the table tells the same, call by call.
func (n *network) checkLog(i int) {
	seen := map[identity]int{}
	state := n.tables[i].Start
	for at, y := range n.servers[i].Log() {
		id := identity{y.Who, y.Sequence}
		seen[id]++
		if seen[id] > 1 {
			n.t.Fatalf("%v stands in the log again, at %d", id, at)
		}
		x, is := n.issued[id]
		if is && (x.to != here+i || y.Prog != 9 || y.Vers != 3 || y.Proc != x.proc || y.Args != x.args || at < x.logged) || !is && y.Who.Address < firstStranger {
			n.t.Fatalf("%v stands in the log, at %d, where %v was issued", y, at, x)
		}
		var accept int
		var results string
		state, accept, results = machine.Step(n.schema, 9, 3, n.tables[i], state, y.Proc, y.Args)
		if accept != y.Accept || results != y.Results {
			n.t.Fatalf("%v stands in the log, at %d, where the table tells %d, %q", y, at, accept, results)
		}
		if is && n.ended[id].Status != api.OutSuccess {
			n.count["run all the same"]++
		}
		if !is {
			n.count["a stranger's"]++
		}
	}
}

// TestNetwork is P1, P2, P4 and P5 for servers as these: whatever is lost, doubled, late, and sent by strangers.
func TestNetwork(t *testing.T) {
	r := rand.New(rand.NewSource(22))
	count := map[string]int{}
	for range 200 {
		n := newNetwork(t, r, count)
		for range 500 {
			n.step()
		}
		for i, c := range n.clients {
			for len(c.Waiting()) > 0 {
				c.Tick()
			}
			n.look(i)
		}
		if len(n.ended) != len(n.issued) {
			t.Fatalf("%d calls, %d outcomes", len(n.issued), len(n.ended))
		}
		for i := range n.servers {
			n.checkLog(i)
		}
	}
	for kind, least := range map[string]int{"success": 1000, "timeout": 300, "refused": 100, "accept": 200, "run all the same": 20, "a stranger's": 100} {
		if count[kind] < least {
			t.Errorf("%s: %d times only", kind, count[kind])
		}
	}
}
